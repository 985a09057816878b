"""Takers: each takes the lines of a text one by one, and tells whether such a text can begin with them.

None of them is used any more behind a line that it did not take.
"""

from letinside.errors import Wrong
from letinside.gates import Gate
from letinside.houses import House
from letinside.kinds import are_names, is_deed, is_name
from letinside.notation import show_deed


class GateTaker:
    """Takes the lines of a Gate, whose doors are to have none of the barred names."""

    def __init__(self, barred):
        self._barred = barred
        self._states = None
        self._doors = None
        self._gate = None
        self._last = None

    def take(self, line):
        """Tell whether the text can go on with a line, and take it."""
        words = line.split(" ")
        if self._states is None:
            return self._take_states(words)
        if self._doors is None:
            return self._take_doors(words)
        if self._gate is None:
            return self._take_closet(words)
        return self._take_rule(words)

    def is_whole(self):
        """Tell whether the text may end here."""
        return self._gate is not None

    def made(self):
        """Return the Gate, once the text is whole."""
        return self._gate

    def _take_states(self, words):
        """Tell whether these are the words of the line of the states."""
        if len(words) == 2 and words[0] == "gate":
            self._states = number_of(words[1])
        return self._states is not None and 1 <= self._states <= 64

    def _take_doors(self, words):
        """Tell whether these are the words of the line of the doors."""
        self._doors = words[1:]
        if len(self._doors) == 0 or not _is_row("doors", words):
            return False
        return not any([name in self._barred for name in self._doors])

    def _take_closet(self, words):
        """Tell whether these are the words of the line of the closet."""
        if not _is_row("closet", words):
            return False
        self._gate = Gate(self._states, self._doors, words[1:], [])
        return True

    def _take_rule(self, words):
        """Tell whether these are the words of the line of a further rule."""
        rule = _rule_of(words)
        try:
            self._gate = self._gate.with_rule(rule)
        except Wrong:
            return False
        ahead = self._last
        self._last = rule[:3]
        return ahead is None or ahead < self._last


class HouseTaker:
    """Takes the lines of a House."""

    def __init__(self):
        self._guests = None
        self._things = None
        self._gates = []
        self._first = []

    def take(self, line):
        """Tell whether the text can go on with a line, and take it."""
        words = line.split(" ")
        if self._guests is None:
            self._guests = words[1:]
            return _is_row("guests", words)
        if self._things is None:
            self._things = words[1:]
            return _is_row("things", words) and not any([name in self._guests for name in self._things])
        if words[0] == "first":
            return self._take_first(words)
        if len(self._first) > 0:
            return False
        if words[0] == "gate" and self._are_gates_whole():
            self._gates.append(GateTaker(self._objects()))
        return len(self._gates) > 0 and self._gates[-1].take(line)

    def is_whole(self):
        """Tell whether the text may end here."""
        return self._things is not None and self._are_gates_whole() and self._are_closets_known()

    def made(self):
        """Return the House, once the text is whole."""
        return House(self._guests, self._things, self._made_gates(), self._first)

    def _take_first(self, words):
        """Tell whether these are the words of the line of a further first pair."""
        if not self._are_gates_whole() or not self._are_closets_known() or len(words) != 3:
            return False
        pair = (words[1], words[2])
        if pair[0] not in self._guests or pair[1] not in self._objects() or pair[0] == pair[1]:
            return False
        self._first.append(pair)
        return self._first[-2:] == [pair] or self._first[-2] < pair

    def _are_gates_whole(self):
        """Tell whether the text of the last gate may end here."""
        return all([gate.is_whole() for gate in self._gates])

    def _are_closets_known(self):
        """Tell whether all names in closets are those of objects."""
        names = self._objects()
        return all([name in names for gate in self._made_gates() for name in gate.closet()])

    def _made_gates(self):
        """Return the list of the Gates, which are whole."""
        return [gate.made() for gate in self._gates]

    def _objects(self):
        """Return the list of the names of the objects so far."""
        return self._guests + self._things + [door for gate in self._made_gates() for door in gate.doors()]


class DeedsTaker:
    """Takes the lines of a list of deeds."""

    def __init__(self):
        self._deeds = []

    def take(self, line):
        """Tell whether the text can go on with a line, and take it."""
        self._deeds.append(deed_of(line))
        return self._deeds[-1] is not None

    def is_whole(self):
        """Tell whether the text may end here."""
        return True

    def made(self):
        """Return the list of the deeds."""
        return list(self._deeds)


class StandTaker:
    """Takes the lines of a stand."""

    def __init__(self):
        self._gates = []
        self._held = []

    def take(self, line):
        """Tell whether the text can go on with a line, and take it."""
        words = line.split(" ")
        if words[0] == "at":
            return len(self._held) == 0 and self._take_gate(words)
        return self._take_held(words)

    def is_whole(self):
        """Tell whether the text may end here."""
        return True

    def made(self):
        """Return the stand."""
        return (tuple(self._gates), tuple(self._held))

    def _take_gate(self, words):
        """Tell whether these are the words of the line of a further gate."""
        if len(words) != 3 or number_of(words[1]) is None or not (words[2] == "-" or is_name(words[2])):
            return False
        self._gates.append((number_of(words[1]), _without_dash(words[2])))
        return True

    def _take_held(self, words):
        """Tell whether these are the words of the line of a further guest."""
        if len(words) < 3 or not _is_row("held", [words[0]] + words[2:]) or words[1] not in words[2:]:
            return False
        if len(self._held) > 0 and self._held[-1][0] >= words[1]:
            return False
        self._held.append((words[1], tuple(words[2:])))
        return True


def deed_of(line):
    """Return the deed with this text, or None."""
    deed = tuple([_without_dash(word) for word in line.split(" ")])
    return deed if is_deed(deed) and show_deed(deed) == line else None


def number_of(word):
    """Return the integer from 0 on with this text, or None."""
    if not 1 <= len(word) <= 9 or not all(["0" <= sign <= "9" for sign in word]):
        return None
    return int(word) if word == "0" or word[0] != "0" else None


def _rule_of(words):
    """Return what is a rule with these words if its Gate takes it, or None."""
    if len(words) < 6 or words[0] != "rule" or "" in words or words[5] not in ("keeps", "-"):
        return None
    keeps = words[5] == "keeps"
    return (words[1], number_of(words[2]), _without_dash(words[3]), number_of(words[4]), keeps, tuple(words[6:]))


def _is_row(head, words):
    """Tell whether these are the words of a line of ascending names."""
    names = words[1:]
    return words[0] == head and are_names(names) and names == sorted(names)


def _without_dash(word):
    """Return a word, or "" for a dash."""
    return "" if word == "-" else word
