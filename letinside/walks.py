"""Walks: from a grown place of a board to all nodes that turns and growing lead to."""

from letinside.stands import first_stand


def next_places(board, place):
    """Return the list of the grown places, some perhaps several times, to which a turn leads."""
    return [board.grow(told)[0] for told in board.turns(place)]


def first_place(house, board):
    """Return the node to which the first stand grows."""
    return board.grow(board.place_of(first_stand(house)))[0]


def walk_on(board, found, begin, wanted):
    """Add to what a walk has found all nodes that are come to from a grown place and are not among it yet.

    What is found is a dict from places to tuples (turns, elder, turn, told): the fewest turns from where
    the walk began, and the node, its turn and the place just behind this turn by which they come. The walk
    ends at the first place that has what is wanted, which is returned; if none has, or None is wanted, it
    goes on to the end, and None is returned.
    """
    found[begin] = (0, None, None, None)
    if wanted is not None and board.has(begin, wanted):
        return begin
    level = [begin]
    while len(level) > 0:
        further = []
        for elder in level:
            for told, turn in board.turns(elder).items():
                place = board.grow(told)[0]
                if place not in found:
                    found[place] = (found[elder][0] + 1, elder, turn, told)
                    further.append(place)
                    if wanted is not None and board.has(place, wanted):
                        return place
        level = further
    return None


def walk_from_first(house, board, wanted):
    """Return all that a walk from the first stand's node finds, and what it ends at."""
    found = {}
    end = walk_on(board, found, first_place(house, board), wanted)
    return (found, end)


def way_back(board, found, place):
    """Return where the walk that found a place began, and a play from there that leads just to the place."""
    parts = []
    while found[place][1] is not None:
        _, elder, turn, told = found[place]
        parts.append([turn] + board.grow(told)[1])
        place = elder
    return (place, [deed for part in reversed(parts) for deed in part])


def play_to(house, board, found, place):
    """Return a play from the first stand that leads just to a place that a walk from there has found."""
    return board.grow(board.place_of(first_stand(house)))[1] + way_back(board, found, place)[1]
