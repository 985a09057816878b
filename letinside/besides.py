"""Besides: two views beside each other, and the pairs to which calls lead them."""

from letinside.calling import Caller
from letinside.errors import Unlike
from letinside.stands import first_stand


class Beside:
    """Two views of equally many names, in which the same calls are done.

    A STEP is a tuple (pair, door, given): a call in a pair, door and given being matches of the pair, or
    ("", "") for nothing.
    """

    def __init__(self, one, other):
        if len(one[2]) != len(other[2]):
            raise Unlike()
        self._one = Caller(one[0])
        self._other = Caller(other[0])
        names = list(zip([one[1]] + one[2], [other[1]] + other[2]))
        self._first = (first_stand(one[0])[0], first_stand(other[0])[0], tuple(sorted(names)))

    def first(self):
        """Return the first pair."""
        return self._first

    def steps(self, pair):
        """Return the list of the steps from a pair, but for those by which nothing is done in either view."""
        doors = [match for match in pair[2] if self._one.is_door(match[0]) or self._other.is_door(match[1])]
        return [(pair, door, given) for door in doors for given in [("", "")] + list(pair[2])]

    def behind(self, step):
        """Return the pair behind a step, or None if the two views are told unlike things by it."""
        pair, door, given = step
        gates, names = self._one.call(pair[0], door[0], given[0])
        gates_too, names_too = self._other.call(pair[1], door[1], given[1])
        if len(names) != len(names_too):
            return None
        matches = list(pair[2])
        for told in zip(names, names_too):
            if told not in matches:
                if any([told[0] == match[0] or told[1] == match[1] for match in matches]):
                    return None
                matches.append(told)
        return (gates, gates_too, tuple(sorted(matches)))

    def walk(self):
        """Return the dict from all pairs to the steps by which they come first, and None.

        If the views can be parted, return what has been found so far, and a step that parts them with as
        few calls as possible. The first pair comes by None.
        """
        found = {self._first: None}
        level = [self._first]
        while len(level) > 0:
            further = []
            for elder in level:
                for step in self.steps(elder):
                    pair = self.behind(step)
                    if pair is None:
                        return (found, step)
                    if pair not in found:
                        found[pair] = step
                        further.append(pair)
            level = further
        return (found, None)
