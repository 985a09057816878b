"""Walks: from a grown place of a board to all nodes that turns and growing lead to."""

from letinside.stands import first_stand


def next_places(board, place):
    """Return the list of the grown places, some perhaps several times, to which a turn leads."""
    return [board.grow(told)[0] for told in board.turns(place)]


def walk(board, begin, wanted):
    """Return the nodes that are come to from a grown place, and the first one that has what is wanted.

    The nodes are a dict from places to tuples (turns, elder, turn, told): the fewest turns, and the node,
    its turn and the place just behind this turn by which they come. The walk ends where one has what is
    wanted; if none has, or None is wanted, it goes on to the end, and None is returned in its place.
    """
    found = {begin: (0, None, None, None)}
    if wanted is not None and board.has(begin, wanted):
        return (found, begin)
    level = [begin]
    while len(level) > 0:
        further = []
        for elder in level:
            for told, turn in board.turns(elder).items():
                place = board.grow(told)[0]
                if place not in found:
                    found[place] = (found[elder][0] + 1, elder, turn, told)
                    further.append(place)
                    if wanted is not None and board.has(place, wanted):
                        return (found, place)
        level = further
    return (found, None)


def walk_from_first(house, board, wanted):
    """Return what walk returns, from the node to which the first stand grows."""
    begin = board.grow(board.place_of(first_stand(house)))[0]
    return walk(board, begin, wanted)


def play_to(house, board, found, place):
    """Return a play from the first stand that leads just to a place that a walk from there has found."""
    parts = []
    while found[place][1] is not None:
        _, elder, turn, told = found[place]
        parts.append([turn] + board.grow(told)[1])
        place = elder
    parts.append(board.grow(board.place_of(first_stand(house)))[1])
    return [deed for part in reversed(parts) for deed in part]
