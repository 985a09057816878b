"""Stands: in which state the gates are, what they have kept, and what the guests hold."""

from letinside.kinds import are_names, is_below


def first_stand(house):
    """Return the first stand of a House."""
    held = []
    for guest in house.guests():
        names = [name for holder, name in house.first() if holder == guest]
        held.append((guest, tuple(sorted(names + [guest]))))
    return (tuple([(0, "") for _ in house.gates()]), tuple(held))


def is_stand(house, thing):
    """Tell whether thing, any value, is a stand of a House by its form."""
    if not _is_tuple_of(thing, 2):
        return False
    return are_gates(house, thing[0]) and _is_held(house, thing[1])


def names_held(stand, guest):
    """Return the list of the names that a guest holds."""
    return list(dict(stand[1])[guest])


def has(stand, wish):
    """Tell whether the guest of each pair of a wish holds its name."""
    held = dict(stand[1])
    return all([name in held[guest] for guest, name in wish])


def within(one, other):
    """Tell whether one stand is within another one of the same house."""
    if one[0] != other[0]:
        return False
    more = dict(other[1])
    return all([name in more[guest] for guest, names in one[1] for name in names])


def holding(held, guest, names):
    """Return what the guests hold when one of them holds further names, too."""
    row = []
    for holder, own in held:
        if holder == guest:
            row.append((holder, tuple(sorted(set(list(own) + names)))))
        else:
            row.append((holder, own))
    return tuple(row)


def are_gates(house, thing):
    """Tell whether thing has the form of the gates of a stand."""
    gates = house.gates()
    if not _is_tuple_of(thing, len(gates)) or not all([_is_tuple_of(part, 2) for part in thing]):
        return False
    if not all([is_below(part[0], gate.states) for part, gate in zip(thing, gates)]):
        return False
    known = house.objects() + [""]
    return all([part[1] in known for part in thing])


def _is_tuple_of(thing, many):
    """Tell whether thing is a tuple of so many parts."""
    return isinstance(thing, tuple) and len(thing) == many


def _is_held(house, thing):
    """Tell whether thing has the form of what the guests of a stand hold."""
    guests = house.guests()
    if not _is_tuple_of(thing, len(guests)) or not all([_is_tuple_of(part, 2) for part in thing]):
        return False
    if [part[0] for part in thing] != guests:
        return False
    known = house.objects()
    return all([_are_held(part[1], known) and part[0] in part[1] for part in thing])


def _are_held(thing, known):
    """Tell whether thing is an ascending tuple of names that are known."""
    if not isinstance(thing, tuple) or not are_names(thing):
        return False
    return list(thing) == sorted(thing) and all([name in known for name in thing])
