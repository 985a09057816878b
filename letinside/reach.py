"""Reach: whether a wish can come, and by which play."""

from letinside.boards import Board
from letinside.covers import cover_from
from letinside.plays import is_of_acting, stands_of
from letinside.stands import has
from letinside.walks import first_place, play_to, walk_from_first


def can(house, acting, wish):
    """Tell whether a wish can come."""
    board = Board(house, acting)
    return cover_from(board, [first_place(house, board)], board.wanted(wish)) is None


def fewest(house, acting, wish):
    """Return the fewest turns of a play that brings a wish, or None if it cannot come."""
    board = Board(house, acting)
    found, place = walk_from_first(house, board, board.wanted(wish))
    return None if place is None else found[place][0]


def play_for(house, acting, wish):
    """Return a play with the fewest turns that brings a wish, or None if it cannot come."""
    board = Board(house, acting)
    found, place = walk_from_first(house, board, board.wanted(wish))
    return None if place is None else play_to(house, board, found, place)


def is_play_for(house, acting, wish, thing):
    """Tell whether thing, any value, is a play from the first stand that brings a wish."""
    if not isinstance(thing, list) or not all([is_of_acting(part, acting) for part in thing]):
        return False
    stands = stands_of(house, thing)
    return stands is not None and has(stands[-1], wish)
