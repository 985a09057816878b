"""Least lots of guests and of first pairs by which a wish comes, or does not come."""

from letinside.boards import Board
from letinside.covers import cover_from
from letinside.leastlots import least_lots
from letinside.reach import can
from letinside.walks import first_place


def actor_lots(house, wish):
    """Return all least lots of guests with just which acting a wish can come."""
    def does(guests):
        """Tell whether the wish can come if just these act."""
        return can(house, tuple(guests), wish)

    return least_lots(house.guests(), does)


def bringing(house, acting, wish):
    """Return all least lots of first pairs with which a wish can come, all others being withheld."""
    board = Board(house, acting)

    def does(lot):
        """Tell whether the wish can come with just these first pairs."""
        return _comes(house, board, wish, lot)

    return least_lots(house.first(), does)


def barring(house, acting, wish):
    """Return all least lots of first pairs with which withheld a wish cannot come."""
    board = Board(house, acting)
    first = house.first()

    def does(lot):
        """Tell whether the wish cannot come with these first pairs withheld."""
        return not _comes(house, board, wish, [pair for pair in first if pair not in lot])

    return least_lots(first, does)


def _comes(house, board, wish, first):
    """Tell whether a wish can come from other first pairs, of which the board of the house knows nothing."""
    begin = first_place(house.with_first(first), board)
    return cover_from(board, [begin], board.wanted(wish)) is None
