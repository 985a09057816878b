"""Fences: grown stands that show that a wish cannot come."""

from letinside.boards import Board
from letinside.covers import Cover, cover_from, fence_places, stay_within
from letinside.walks import first_place


def fence(house, acting, wish):
    """Return a fence that shuts a wish out, or None if the wish can come."""
    board = Board(house, acting)
    cover = cover_from(board, [first_place(house, board)], board.wanted(wish))
    return None if cover is None else sorted([board.stand_of(place) for place in cover.places()])


def is_fence(house, acting, wish, thing):
    """Tell whether thing, any value, is a fence that shuts a wish out."""
    board = Board(house, acting)
    places = fence_places(house, board, wish, thing)
    if places is None:
        return False
    cover = Cover(places)
    return cover.holds(first_place(house, board)) and stay_within(board, places, cover)
