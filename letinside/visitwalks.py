"""Visit walks: what a visit comes to, whatever the guests who act do ahead of each step of its code."""

from letinside.boards import Board
from letinside.covers import Cover
from letinside.hosting import Host
from letinside.stands import first_stand


class VisitWalk:
    """The grown places and runs that a visit comes to, but for those within others with a run like theirs.

    What can be done from a place can be done from each one that it is within; and what a step of the code
    does depends on the gates alone.
    """

    def __init__(self, visit):
        house, acting, _, _, asker = visit
        self._board = Board(house, acting)
        self._host = Host(visit)
        self._asker = asker
        self._covers = {}
        self._turned = {}
        self._rows = []
        place, play = self._board.grow(self._board.place_of(first_stand(house)))
        self._put(place, self._host.first(), None, play)

    def number_of_wish(self, wish):
        """Return the number of a place that has a wish, or None."""
        wanted = self._board.wanted(wish)

        def has(place, _):
            """Tell whether this place has the wish."""
            return self._board.has(place, wanted)

        return self._walk(has)

    def number_of_call(self, call):
        """Return the number of a run of which the next step makes this call of a door, or None."""
        def makes(_, run):
            """Tell whether the next step of this run makes the call."""
            made = self._host.call_of(run)
            return made is not None and made == call

        return self._walk(makes)

    def calls(self):
        """Return the ascending list of the calls of doors that the code makes."""
        self._walk(None)
        calls = [self._host.call_of(run) for _, run, _, _ in self._rows]
        return sorted({call for call in calls if call is not None})

    def play_to(self, number):
        """Return a visit play that leads just to the place and the run with this number."""
        parts = []
        while number is not None:
            _, _, elder, entries = self._rows[number]
            parts.append(entries)
            number = elder
        return [entry for part in parts[::-1] for entry in part]

    def _walk(self, ends):
        """Return the number of the first place and run of which ends tells True, or None if there is none.

        If ends is None the walk goes on to the end.
        """
        number = 0
        while number < len(self._rows):
            place, run, _, _ = self._rows[number]
            if ends is not None and ends(place, run):
                return number
            self._go_on(number, place, run)
            number += 1
        return None

    def _go_on(self, number, place, run):
        """Add all that one turn, or one step of the code, and growing lead to."""
        for behind, entries in self._turns(place).items():
            self._put(behind, run, number, entries)
        if not self._host.has_ended(run):
            then, gates, names = self._host.behind(run, place[0])
            behind, play = self._board.grow(self._board.holding((gates, place[1]), self._asker, names))
            self._put(behind, then, number, [("step",)] + play)

    def _turns(self, place):
        """Return the dict from the grown places to which a turn leads to the entries that lead there."""
        if place not in self._turned:
            found = {}
            for told, turn in self._board.turns(place).items():
                behind, play = self._board.grow(told)
                found[behind] = [turn] + play
            self._turned[place] = found
        return self._turned[place]

    def _put(self, place, run, elder, entries):
        """Add a grown place and a run, and by which entries they come from others, unless they are within others."""
        cover = self._covers.setdefault(self._host.key_of(run), Cover([]))
        if not cover.holds(place):
            cover.put(place)
            self._rows.append((place, run, elder, entries))
