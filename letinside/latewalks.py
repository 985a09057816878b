"""Late walks: from the first stand to all nodes, and on from the throws of one door in them."""

from letinside.boards import Board
from letinside.walks import play_to, walk_from_first, walk_on, way_back


class LateWalk:
    """What guests who act can come to with one throw of a door, until a wish has come."""

    def __init__(self, house, acting, door, wish):
        self._house = house
        self._door = door
        self._board = Board(house, acting)
        self._ahead = walk_from_first(house, self._board, None)[0]
        self._behind = {}
        self._throws = {}
        self._end = self._walk_behind(self._board.wanted(wish))

    def turns(self):
        """Return the fewest turns ahead of the throw with which the wish can come, or None if it cannot."""
        if self._end is None:
            return None
        return self._ahead[self._last_throw()[0]][0]

    def play(self):
        """Return deeds that bring the wish with the fewest turns ahead of the throw, or None if it cannot come."""
        if self._end is None:
            return None
        node, thrown = self._last_throw()
        ahead = play_to(self._house, self._board, self._ahead, node)
        behind = self._board.grow(thrown)[1] + way_back(self._board, self._behind, self._end)[1]
        return ahead + [("throw", self._door)] + behind

    def _walk_behind(self, wanted):
        """Walk on from the throw in each node; return the first place that has what is wanted, or None."""
        # A walk has found its nodes by their turns, so that the throws with fewer turns ahead come first.
        for node in list(self._ahead):
            thrown = self._board.thrown(node, self._door)
            begin = self._board.grow(thrown)[0]
            if begin not in self._behind:
                self._throws[begin] = (node, thrown)
                end = walk_on(self._board, self._behind, begin, wanted)
                if end is not None:
                    return end
        return None

    def _last_throw(self):
        """Return the node ahead of the throw with which the wish has come, and the place just behind it."""
        return self._throws[way_back(self._board, self._behind, self._end)[0]]
