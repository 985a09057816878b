"""Books: a house that is changed by edits, none of which lets a ban fall."""

from letinside.edits import edited
from letinside.errors import HouseError, Nothing, Stopped, Wrong
from letinside.houses import House
from letinside.margins import margin_of


class Book:
    """A House, who acts in it, and the wishes that must not come."""

    def __init__(self, house, acting=()):
        if not isinstance(house, House):
            raise Wrong(0)
        if not isinstance(acting, tuple) or [guest for guest in house.guests() if guest in acting] != list(acting):
            raise Wrong(1)
        # One status more than edits: the one at first, and the one behind each edit that stands.
        self._history = [(house, acting, ())]
        self._log = []
        self._undone = []

    def __eq__(self, other):
        return isinstance(other, Book) and self._history[-1] == other._history[-1]

    def __len__(self):
        return len(self._log)

    @property
    def house(self):
        """The House now."""
        return self._history[-1][0]

    @property
    def acting(self):
        """The ascending tuple of the guests who act now."""
        return self._history[-1][1]

    def do(self, edit):
        """Do an edit, any value."""
        self._stand_by(edit, edited(self._history[-1], edit))
        self._undone = []

    def bans(self):
        """Return the ascending list of the bans."""
        return list(self._history[-1][2])

    def log(self):
        """Return the list of the edits that stand."""
        return list(self._log)

    def back(self):
        """Undo the last edit, and return it."""
        if len(self._log) == 0:
            raise Nothing()
        edit = self._log.pop()
        self._undone.append((edit, self._history.pop()))
        return edit

    def again(self):
        """Do the edit anew that was undone last, and return it."""
        if len(self._undone) == 0:
            raise Nothing()
        edit, status = self._undone.pop()
        self._stand_by(edit, status)
        return edit

    def copied(self):
        """Return a Book in the same state that goes on by itself."""
        other = Book(self.house, self.acting)
        other._history = list(self._history)
        other._log = list(self._log)
        other._undone = list(self._undone)
        return other

    def trial(self, edits):
        """Return a copy behind edits, any values."""
        other = self.copied()
        for index, edit in enumerate(edits):
            try:
                other.do(edit)
            except HouseError:
                raise Stopped(index)
        return other

    def margin(self):
        """Return the dict from the bans to the ascending lists of the pairs with one of which they could come."""
        return margin_of(self.house, self.acting, self.bans())

    def _stand_by(self, edit, status):
        """Take in an edit and the status behind it."""
        self._log.append(edit)
        self._history.append(status)
