"""Reach: whether a wish can come, and by which play."""

from letinside.boards import Board
from letinside.doing import led
from letinside.errors import NotDone
from letinside.kinds import is_deed
from letinside.stands import first_stand, has
from letinside.walks import play_to, walk_from_first


def can(house, acting, wish):
    """Tell whether a wish can come."""
    return fewest(house, acting, wish) is not None


def fewest(house, acting, wish):
    """Return the fewest turns of a play that brings a wish, or None if it cannot come."""
    board = Board(house, acting)
    found, place = walk_from_first(house, board, board.wanted(wish))
    return None if place is None else found[place][0]


def play_for(house, acting, wish):
    """Return a play with the fewest turns that brings a wish, or None if it cannot come."""
    board = Board(house, acting)
    found, place = walk_from_first(house, board, board.wanted(wish))
    return None if place is None else play_to(house, board, found, place)


def is_play_for(house, acting, wish, thing):
    """Tell whether thing, any value, is a play from the first stand that brings a wish."""
    if not isinstance(thing, list) or not all([_is_of_acting(part, acting) for part in thing]):
        return False
    try:
        stands = led(house, first_stand(house), thing)
    except NotDone:
        return False
    return has(stands[-1], wish)


def _is_of_acting(thing, acting):
    """Tell whether thing, any value, has the form of a call or a hand by a guest who acts."""
    return is_deed(thing) and thing[0] != "throw" and thing[1] in acting
