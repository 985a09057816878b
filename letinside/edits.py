"""Edits: what changes a book, and what comes of it.

A STATUS is a tuple (house, acting, bans): a House, who acts, and the ascending tuple of the bans.
"""

from letinside.errors import Idle, NoDoor, NoEdit, Opened, Strange
from letinside.kinds import is_integer, is_name, is_wish
from letinside.reach import can, play_for


def edited(status, edit):
    """Return the status behind an edit, any value, or raise the first error that bars it."""
    if not _is_edit(edit):
        raise NoEdit()
    _refuse_strange(status[0], edit)
    later = _behind(status, edit)
    if later == status:
        raise Idle()
    _refuse_opened(later)
    return later


def _is_edit(thing):
    """Tell whether thing, any value, has the form of an edit."""
    if not isinstance(thing, tuple) or len(thing) not in (2, 3):
        return False
    word, part = thing[:2]
    if len(thing) == 3:
        if word == "rule":
            return is_integer(part) and part >= 0
        return word in ("give", "withhold") and is_name(part) and is_name(thing[2])
    if word in ("act", "rest"):
        return is_name(part)
    return word == "norule" or word in ("ban", "lift") and is_wish(part)


def _refuse_strange(house, edit):
    """Raise Strange with the first name that no object has, or no guest where one is wanted."""
    pairs = []
    if edit[0] in ("give", "withhold"):
        pairs = [edit[1:]]
    if edit[0] in ("ban", "lift"):
        pairs = edit[1]
    if edit[0] in ("act", "rest"):
        pairs = [(edit[1], edit[1])]
    guests, objects = house.guests(), house.objects()
    for guest, name in pairs:
        if guest not in guests:
            raise Strange(guest)
        if name not in objects:
            raise Strange(name)


def _behind(status, edit):
    """Return the status behind an edit, which may be the same one."""
    house, acting, bans = status
    if edit[0] in ("act", "rest"):
        return (house, _set(acting, edit[1], edit[0] == "act"), bans)
    if edit[0] in ("ban", "lift"):
        return (house, acting, _set(bans, edit[1], edit[0] == "ban"))
    if edit[0] in ("give", "withhold"):
        return (house.with_first(list(_set(house.first(), edit[1:], edit[0] == "give"))), acting, bans)
    if edit[0] == "norule":
        return (house.without_rule(edit[1]), acting, bans)
    gates = house.gates()
    if edit[1] >= len(gates):
        raise NoDoor(edit[1])
    return (house.with_gate(edit[1], gates[edit[1]].with_rule(edit[2])), acting, bans)


def _set(row, item, there):
    """Return the ascending tuple of the different items of a row, with an item or without it."""
    others = [other for other in row if other != item]
    return tuple(sorted(others + [item] if there else others))


def _refuse_opened(status):
    """Raise Opened with the least ban that could come, if there is one."""
    house, acting, bans = status
    for ban in bans:
        if can(house, acting, ban):
            raise Opened(ban, play_for(house, acting, ban))
