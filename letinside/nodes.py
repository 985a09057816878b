"""Nodes: the grown stands that guests who act can lead a house to."""

from letinside.boards import Board
from letinside.walks import next_places, play_to, walk_from_first


def next_nodes(house, node, acting):
    """Return the ascending list of the grown stands to which one turn and growing lead from a grown stand."""
    board = Board(house, acting)
    return sorted({board.stand_of(place) for place in next_places(board, board.place_of(node))})


def nodes(house, acting):
    """Return the ascending list of all nodes."""
    return [node for node, _ in turns_to(house, acting)]


def turns_to(house, acting):
    """Return the ascending list of the tuples of all nodes and the fewest turns that lead to them."""
    board = Board(house, acting)
    found = walk_from_first(house, board, None)[0]
    return sorted([(board.stand_of(place), way[0]) for place, way in found.items()])


def way_to(house, acting, node):
    """Return a play from the first stand that leads just to a node, with the fewest turns."""
    board = Board(house, acting)
    found = walk_from_first(house, board, None)[0]
    return play_to(house, board, found, board.place_of(node))
