"""Throws: what the host still bars by throwing a door once, when guests have done some turns already."""

from letinside.latewalks import LateWalk
from letinside.plays import is_of_acting, stands_of
from letinside.stands import has


def bars(house, acting, door, turns, wish):
    """Tell whether a wish cannot come if the door is thrown with at most so many turns ahead."""
    opening = LateWalk(house, acting, door, wish).turns()
    return opening is None or opening > turns


def latest(house, acting, door, wish):
    """Return ("never",), ("no",), or ("upto", turns), the most turns ahead with which the throw bars a wish."""
    opening = LateWalk(house, acting, door, wish).turns()
    if opening is None:
        return ("never",)
    return ("no",) if opening == 0 else ("upto", opening - 1)


def late_play(house, acting, door, wish):
    """Return deeds with one throw that bring a wish, as few turns ahead of it as possible, or None."""
    return LateWalk(house, acting, door, wish).play()


def is_late_play(house, acting, door, turns, wish, thing):
    """Tell whether thing, any value, are deeds that bring a wish, at most so many turns ahead of their throw."""
    throw = ("throw", door)
    if not isinstance(thing, list) or not all([part == throw or is_of_acting(part, acting) for part in thing]):
        return False
    if thing.count(throw) != 1:
        return False
    stands = stands_of(house, thing)
    if stands is None or not has(stands[-1], wish):
        return False
    ahead = stands[:thing.index(throw) + 1]
    return len([1 for one, other in zip(ahead, ahead[1:]) if one[0] != other[0]]) <= turns
