"""Deeds: whether they can be done in a stand, and what comes of them."""

from letinside.calling import called
from letinside.errors import NoDeed, NoDoor, NoGuest, NotDone, NotHeld
from letinside.kinds import is_deed
from letinside.stands import holding, names_held


def done(house, stand, deed):
    """Return the stand behind a deed, any value."""
    _refuse(house, stand, deed)
    if deed[0] == "hand":
        return (stand[0], holding(stand[1], deed[2], [deed[3]]))
    if deed[0] == "throw":
        return (called(house, stand[0], deed[1], "")[0], stand[1])
    gates, names = called(house, stand[0], deed[2], deed[3])
    return (gates, holding(stand[1], deed[1], names))


def told(house, stand, deed):
    """Return the list of the names that are told by a deed, any value."""
    _refuse(house, stand, deed)
    if deed[0] == "hand":
        return []
    if deed[0] == "throw":
        return called(house, stand[0], deed[1], "")[1]
    return called(house, stand[0], deed[2], deed[3])[1]


def can_do(house, stand, deed):
    """Tell whether a deed, any value, can be done."""
    try:
        _refuse(house, stand, deed)
    except (NoDeed, NoGuest, NoDoor, NotHeld):
        return False
    return True


def is_turn(house, stand, deed):
    """Tell whether a deed, any value, can be done and is a turn."""
    return can_do(house, stand, deed) and done(house, stand, deed)[0] != stand[0]


def led(house, stand, deeds):
    """Return the list of the stands, the given one first, then the one behind each deed."""
    stands = [stand]
    for index, deed in enumerate(deeds):
        if not can_do(house, stands[-1], deed):
            raise NotDone(index)
        stands.append(done(house, stands[-1], deed))
    return stands


def deeds_at(house, stand, acting):
    """Return the ascending list of all calls and hands that guests who act can do."""
    doors = house.doors()
    guests = house.guests()
    deeds = []
    for guest in acting:
        names = names_held(stand, guest)
        for name in names:
            if name in doors:
                deeds.extend([("call", guest, name, given) for given in [""] + names])
            if name in guests and name != guest:
                deeds.extend([("hand", guest, name, given) for given in names])
    return sorted(deeds)


def _refuse(house, stand, deed):
    """Raise the first error that bars a deed, any value; gate_of raises the one of what is no door."""
    if not is_deed(deed):
        raise NoDeed()
    if deed[0] == "throw":
        house.gate_of(deed[1])
    else:
        _refuse_of_guest(house, stand, deed)


def _refuse_of_guest(house, stand, deed):
    """Raise the first error that bars a call or a hand, if there is one."""
    _refuse_guest(house, deed[1])
    if deed[0] == "hand":
        _refuse_guest(house, deed[2])
    else:
        house.gate_of(deed[2])
    held = names_held(stand, deed[1])
    for name in deed[2:]:
        if name != "" and name not in held:
            raise NotHeld(name)


def _refuse_guest(house, name):
    """Raise NoGuest if this is no guest."""
    if name not in house.guests():
        raise NoGuest(name)
