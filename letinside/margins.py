"""Margins: by which single first pairs more the bans of a house could come."""

from letinside.boards import Board
from letinside.covers import cover_from
from letinside.walks import first_place


def margin_of(house, acting, bans):
    """Return the dict from bans, none of which can come, to the ascending lists of such pairs."""
    board = Board(house, acting)
    wanted = [board.wanted(ban) for ban in bans]
    # Pairs that lead to the same node at first open the same bans.
    opened = {first_place(house, board): [False for _ in bans]}
    found = {ban: [] for ban in bans}
    for pair in _further_pairs(house):
        begin = first_place(house.with_first(house.first() + [pair]), board)
        if begin not in opened:
            places = cover_from(board, [begin], None).places()
            opened[begin] = [any([board.has(place, want) for place in places]) for want in wanted]
        for ban, opens in zip(bans, opened[begin]):
            if opens:
                found[ban].append(pair)
    return found


def _further_pairs(house):
    """Return the ascending list of the pairs of a guest and another name that are no first pairs."""
    first = house.first()
    pairs = [(guest, name) for guest in house.guests() for name in house.objects() if name != guest]
    return [pair for pair in pairs if pair not in first]
