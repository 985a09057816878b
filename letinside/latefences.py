"""Late fences: grown stands that show that a wish cannot come, whenever the host throws a door."""

from letinside.boards import Board
from letinside.covers import Cover, cover_from, fence_places, stay_within
from letinside.walks import first_place


def late_fence(house, acting, door, wish):
    """Return a late fence that shuts a wish out, or None if it can come with a throw at some moment."""
    board = Board(house, acting)
    wanted = board.wanted(wish)
    ahead = cover_from(board, [first_place(house, board)], wanted)
    if ahead is None:
        return None
    behind = cover_from(board, _thrown(board, ahead.places(), door), wanted)
    if behind is None:
        return None
    return (_stands(board, ahead), _stands(board, behind))


def is_late_fence(house, acting, door, wish, thing):
    """Tell whether thing, any value, is a late fence that shuts a wish out."""
    if not isinstance(thing, tuple) or len(thing) != 2:
        return False
    board = Board(house, acting)
    ahead = fence_places(house, board, wish, thing[0])
    behind = fence_places(house, board, wish, thing[1])
    if ahead is None or behind is None:
        return False
    before = Cover(ahead)
    after = Cover(behind)
    if not before.holds(first_place(house, board)) or not stay_within(board, ahead, before):
        return False
    return all([after.holds(place) for place in _thrown(board, ahead, door)]) and stay_within(board, behind, after)


def _thrown(board, places, door):
    """Return the list of the grown places to which a throw of a door and growing lead."""
    return [board.grow(board.thrown(place, door))[0] for place in places]


def _stands(board, cover):
    """Return the ascending list of the stands of a Cover."""
    return sorted([board.stand_of(place) for place in cover.places()])
