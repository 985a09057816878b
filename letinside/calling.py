"""Calling: what comes of a call of a door, whoever does it."""


def called(house, gates, door, given):
    """Return the gates behind a call of a door, and the list of the names told."""
    number = house.gate_of(door)
    state, kept = gates[number]
    later, kept_then, names = house.gates()[number].call(state, kept, door, given)
    return (gates[:number] + ((later, kept_then),) + gates[number + 1:], names)


class Caller:
    """What comes of the calls in one House, each worked out once."""

    def __init__(self, house):
        self._house = house
        self._doors = house.doors()
        self._known = {}

    def is_door(self, name):
        """Tell whether a name is that of a door."""
        return name in self._doors

    def call(self, gates, name, given):
        """Return the gates behind a call and the names told; by what is no door nothing is done or told."""
        if name not in self._doors:
            return (gates, [])
        key = (gates, name, given)
        if key not in self._known:
            self._known[key] = called(self._house, gates, name, given)
        return self._known[key]
