"""The desk: a book that is led by lines."""

from letinside.books import Book
from letinside.commands import command_of, line_of
from letinside.ends import ever
from letinside.errors import HouseError, Opened
from letinside.least import actor_lots, barring
from letinside.notation import show_house, show_wish
from letinside.reach import can, fewest
from letinside.throws import latest


class Desk:
    """Keeps a Book of a House, and answers lines."""

    def __init__(self, house):
        # The Book refuses what is no House.
        self._book = Book(house)

    def execute(self, line):
        """Do what a line, any value, says, and return the answer."""
        command = command_of(line)
        word = command[0]
        if word in ("house", "bans"):
            return self._shown(word)
        if word in ("holds", "late", "can", "turns", "actors", "lots"):
            return _answer(self._book.house, self._book.acting, command)
        try:
            return self._done(command)
        except Opened as error:
            return "opened " + show_wish(error.ban)
        except HouseError:
            return "refused"

    def book(self):
        """Return a copy of the Book."""
        return self._book.copied()

    def _shown(self, word):
        """Return the text of the house, or of the bans."""
        if word == "house":
            return show_house(self._book.house)
        bans = [show_wish(ban) for ban in self._book.bans()]
        return "; ".join(bans) if len(bans) > 0 else "none"

    def _done(self, command):
        """Do, undo or do anew an edit, and return the answer, or raise what bars it."""
        if command[0] == "back":
            return line_of(self._book.back())
        if command[0] == "again":
            return line_of(self._book.again())
        self._book.do(command)
        return str(len(self._book))


def _answer(house, acting, command):
    """Return the answer to what is asked of a house and who acts."""
    if command[0] == "holds":
        return " ".join(ever(house, acting)[command[1]]) if command[1] in house.guests() else "refused"
    if not _are_known(house, command[-1]):
        return "refused"
    if command[0] == "late":
        return _lateness(house, acting, command[1], command[2])
    return _answer_of_wish(house, acting, command[0], command[1])


def _are_known(house, wish):
    """Tell whether a wish is of guests of a house and names of its objects."""
    guests, objects = house.guests(), house.objects()
    return all([guest in guests and name in objects for guest, name in wish])


def _lateness(house, acting, door, wish):
    """Return until when a throw bars a wish."""
    if door not in house.doors():
        return "refused"
    told = latest(house, acting, door, wish)
    return str(told[1]) if told[0] == "upto" else told[0]


def _answer_of_wish(house, acting, word, wish):
    """Return the answer to what is asked of a wish."""
    if word == "can":
        return "yes" if can(house, acting, wish) else "no"
    if word == "turns":
        turns = fewest(house, acting, wish)
        return "-" if turns is None else str(turns)
    if word == "actors":
        return _text_of_lots(actor_lots(house, wish))
    return _text_of_lots([[guest + ":" + name for guest, name in lot] for lot in barring(house, acting, wish)])


def _text_of_lots(lots):
    """Return the text of lots of words."""
    texts = [" ".join(lot) if len(lot) > 0 else "-" for lot in lots]
    return ", ".join(texts) if len(texts) > 0 else "none"
