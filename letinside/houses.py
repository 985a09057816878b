"""Houses: guests, things, gates, and what the guests hold at first."""

from letinside.errors import NoDoor, NoRule, Strange, Twice, Wrong
from letinside.gates import Gate
from letinside.kinds import are_names, are_pairs_of_names


class House:
    """A house; what is done in it is told by stands, it never changes itself."""

    def __init__(self, guests, things, gates, first):
        if not are_names(guests):
            raise Wrong(0)
        if not are_names(things):
            raise Wrong(1)
        if not isinstance(gates, (list, tuple)) or not all([isinstance(gate, Gate) for gate in gates]):
            raise Wrong(2)
        if not are_pairs_of_names(first):
            raise Wrong(3)
        self._guests = sorted(guests)
        self._things = sorted(things)
        self._gates = list(gates)
        self._numbers = {}
        self._refuse_twice()
        self._refuse_strange(first)
        for number, gate in enumerate(self._gates):
            for door in gate.doors():
                self._numbers[door] = number
        self._first = sorted({(guest, name) for guest, name in first if guest != name})

    def __eq__(self, other):
        return (isinstance(other, House) and self._guests == other._guests and self._things == other._things
                and self._gates == other._gates and self._first == other._first)

    def guests(self):
        """Return the ascending list of the guests."""
        return list(self._guests)

    def things(self):
        """Return the ascending list of the things."""
        return list(self._things)

    def doors(self):
        """Return the ascending list of the doors of all gates."""
        return sorted([door for gate in self._gates for door in gate.doors()])

    def objects(self):
        """Return the ascending list of all names."""
        return sorted(self._guests + self._things + self.doors())

    def gates(self):
        """Return the list of the Gates, in the order in which they were given."""
        return list(self._gates)

    def first(self):
        """Return the ascending list of the first pairs, without those in which a guest holds itself."""
        return list(self._first)

    def gate_of(self, door):
        """Return the number of the gate of a door, any value."""
        if not isinstance(door, str) or door not in self._numbers:
            raise NoDoor(door)
        return self._numbers[door]

    def with_first(self, pairs):
        """Return the House with other first pairs."""
        if not are_pairs_of_names(pairs):
            raise Wrong(0)
        return House(self._guests, self._things, self._gates, pairs)

    def with_gate(self, number, gate):
        """Return the House with another Gate in the place of the one with this number."""
        gates = self._gates[:number] + [gate] + self._gates[number + 1:]
        return House(self._guests, self._things, gates, self._first)

    def without_rule(self, key):
        """Return the House without the rule of one of its gates with this key, any value."""
        if isinstance(key, tuple) and len(key) == 3:
            for number, gate in enumerate(self._gates):
                if key[0] in gate.doors():
                    return self.with_gate(number, gate.without_rule(key))
        raise NoRule(key)

    def renamed(self, names):
        """Return the House with other names throughout, by a dict from names to names."""
        guests = [names.get(guest, guest) for guest in self._guests]
        things = [names.get(thing, thing) for thing in self._things]
        first = [(names.get(guest, guest), names.get(name, name)) for guest, name in self._first]
        return House(guests, things, [gate.renamed(names) for gate in self._gates], first)

    def _refuse_twice(self):
        """Raise Twice with the least name that two objects have."""
        names = self.objects()
        for one, other in zip(names, names[1:]):
            if one == other:
                raise Twice(one)

    def _refuse_strange(self, first):
        """Raise Strange with the least name that no object has, or no guest where one is wanted."""
        names = self.objects()
        strange = [name for gate in self._gates for name in gate.closet() if name not in names]
        for guest, name in first:
            if guest not in self._guests:
                strange.append(guest)
            if name not in names:
                strange.append(name)
        if len(strange) > 0:
            raise Strange(min(strange))
