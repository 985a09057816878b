"""Covers: a few grown places, within which all others are that can be come to.

What can be done from a place can be done from each one that it is within, and leads to a place within the
other one's, so that places within others need not be looked at.
"""

from letinside.boards import Board
from letinside.stands import is_stand
from letinside.walks import first_place, next_places


class Cover:
    """Some places, to tell whether others are within one of them."""

    def __init__(self, places):
        self._rows = {}
        for place in places:
            self.put(place)

    def put(self, place):
        """Take in a place; those within it are not needed any more."""
        gates, masks = place
        rows = [row for row in self._rows.get(gates, []) if not _is_less(row, masks)]
        self._rows[gates] = rows + [masks]

    def holds(self, place):
        """Tell whether a place is within one of those taken in."""
        for row in self._rows.get(place[0], []):
            if _is_less(place[1], row):
                return True
        return False

    def places(self):
        """Return the list of the places that are needed."""
        return [(gates, masks) for gates, rows in self._rows.items() for masks in rows]


def cover_from(board, begins, wanted):
    """Return the Cover of grown places and all that comes of them, or None if one of these has what is wanted.

    If None is wanted the Cover is returned anyhow.
    """
    cover = Cover([])
    ahead = list(begins)
    while len(ahead) > 0:
        place = ahead.pop()
        if wanted is not None and board.has(place, wanted):
            return None
        if not cover.holds(place):
            cover.put(place)
            ahead.extend(next_places(board, place))
    return cover


def most_nodes(house, acting):
    """Return a list of nodes within which all nodes are."""
    board = Board(house, acting)
    cover = cover_from(board, [first_place(house, board)], None)
    return [board.stand_of(place) for place in cover.places()]


def fence_places(house, board, wish, thing):
    """Return the places of a list of different grown stands that have no wish, or None if thing is none."""
    if not isinstance(thing, list) or not all([is_stand(house, part) for part in thing]):
        return None
    if len(set(thing)) != len(thing):
        return None
    wanted = board.wanted(wish)
    places = [board.place_of(stand) for stand in thing]
    if any([board.has(place, wanted) or board.grow(place)[0] != place for place in places]):
        return None
    return places


def stay_within(board, places, cover):
    """Tell whether all that a turn and growing lead to from grown places is within a Cover."""
    return all([cover.holds(behind) for place in places for behind in next_places(board, place)])


def _is_less(masks, others):
    """Tell whether each guest holds by the others all that it holds by the masks."""
    return all([mask & ~other == 0 for mask, other in zip(masks, others)])
