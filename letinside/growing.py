"""Growing: all that guests who act can do without a turn."""

from letinside.boards import Board


def grown(house, stand, acting):
    """Return the grown stand to which a stand grows."""
    board = Board(house, acting)
    return board.stand_of(board.grow(board.place_of(stand))[0])


def is_grown(house, stand, acting):
    """Tell whether a stand is grown already."""
    return grown(house, stand, acting) == stand


def growth(house, stand, acting):
    """Return a play without turns from a stand to the grown stand to which it grows."""
    board = Board(house, acting)
    return board.grow(board.place_of(stand))[1]


def lots(house, stand, acting):
    """Return the ascending lists of the guests who act and hold each other when the stand has grown."""
    held = dict(grown(house, stand, acting)[1])
    found = {}
    for guest in acting:
        least = min([other for other in acting if other in held[guest] and guest in held[other]])
        found.setdefault(least, []).append(guest)
    return list(found.values())
