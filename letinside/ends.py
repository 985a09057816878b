"""Ends: what the guests can ever come to hold, most of all, and not at once."""

from letinside.covers import most_nodes


def ever(house, acting):
    """Return the dict from all guests to the ascending lists of the names that each can come to hold."""
    held = {guest: {} for guest in house.guests()}
    for node in most_nodes(house, acting):
        for guest, names in node[1]:
            for name in names:
                held[guest][name] = True
    return {guest: sorted(held[guest]) for guest in house.guests()}


def most_held(house, acting):
    """Return the ascending list of the held parts of nodes that are less than no other one's."""
    bits = {}
    for guest in house.guests():
        for name in house.objects():
            bits[(guest, name)] = 1 << len(bits)
    sums = {}
    for node in most_nodes(house, acting):
        sums[node[1]] = sum([bits[pair] for pair in _pairs_held(node)])
    most = list(sums.values())
    return sorted([held for held in sums if not _is_less_than_one(sums[held], most)])


def apart(house, acting):
    """Return the ascending list of the wishes of two pairs that can come each by itself, but not at once."""
    where = {}
    for at, node in enumerate(most_nodes(house, acting)):
        for pair in _pairs_held(node):
            where[pair] = where.get(pair, 0) | 1 << at
    coming = sorted(where)
    found = []
    for at, one in enumerate(coming):
        found.extend([(one, other) for other in coming[at + 1:] if where[one] & where[other] == 0])
    return found


def _pairs_held(stand):
    """Return the list of the tuples of a guest and a name that it holds."""
    return [(guest, name) for guest, names in stand[1] for name in names]


def _is_less_than_one(own, others):
    """Tell whether a sum of bits has some bits fewer, and none more, than one of others."""
    return any([own != other and own & ~other == 0 for other in others])
