"""Pairs: by which names and gates two views that see the same stand beside each other."""

from letinside.besides import Beside
from letinside.kinds import are_names, are_pairs_of_names
from letinside.stands import are_gates


def pairs(one, other):
    """Return the least closed list of pairs of two views, ascending, or None if there is none."""
    found, step = Beside(one, other).walk()
    return sorted(found) if step is None else None


def are_pairs(one, other, thing):
    """Tell whether thing, any value, is a closed list of pairs of two views."""
    beside = Beside(one, other)
    if not isinstance(thing, list) or not all([_has_form(one, other, part) for part in thing]):
        return False
    among = {pair: True for pair in thing}
    if len(among) != len(thing) or beside.first() not in among:
        return False
    return all([beside.behind(step) in among for pair in thing for step in beside.steps(pair)])


def _has_form(one, other, thing):
    """Tell whether thing, any value, has the form of a pair of two views."""
    if not isinstance(thing, tuple) or len(thing) != 3:
        return False
    if not are_gates(one[0], thing[0]) or not are_gates(other[0], thing[1]):
        return False
    return _are_matches(one, other, thing[2])


def _are_matches(one, other, thing):
    """Tell whether thing, any value, has the form of the matches of a pair of two views."""
    if not isinstance(thing, tuple) or not are_pairs_of_names(thing):
        return False
    if list(thing) != sorted(thing) or (one[1], other[1]) not in thing:
        return False
    mine = [match[0] for match in thing]
    theirs = [match[1] for match in thing]
    return _are_objects(one[0], mine) and _are_objects(other[0], theirs)


def _are_objects(house, names):
    """Tell whether names are different names of objects of a House."""
    known = house.objects()
    return are_names(names) and all([name in known for name in names])
