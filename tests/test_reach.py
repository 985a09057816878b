import itertools
import unittest

from letinside.doing import is_turn, led
from letinside.gates import Gate
from letinside.houses import House
from letinside.kinds import is_wish
from letinside.nodes import turns_to
from letinside.reach import can, fewest, is_play_for, play_for
from letinside.stands import first_stand, has
from tests.samples import junk, market, market_in_other_order, otherwise, plain_deeds, plain_stands, random_house
from tests.samples import shuffled
from tests.test_growing import groups

BOTH = ("ann", "bob")
CUP = (("bob", "cup"),)
ROW = [("call", "ann", "buy", ""), ("call", "ann", "put", "cup"), ("call", "bob", "get", "")]


def wishes(house, most):
    """The wishes of at most so many pairs."""
    pairs = [(guest, name) for guest in house.guests() for name in house.objects()]
    return [wish for many in range(1, most + 1) for wish in itertools.combinations(pairs, many)]


def plain_is_play(house, acting, wish, thing):
    """Whether thing is a play that brings a wish, worked out from the rules alone."""
    stand = first_stand(house)
    for deed in thing if isinstance(thing, list) else [None]:
        behind = plain_deeds(house, stand, acting)
        if not isinstance(deed, tuple) or deed not in list(behind):
            return False
        stand = behind[deed]
    return has(stand, wish)


class ReachTest(unittest.TestCase):
    def check(self, house, acting, wish, turns):
        """Check all that is told of a wish that comes with so many turns, or not at all."""
        self.assertIs(can(house, acting, wish), turns is not None)
        self.assertEqual(fewest(house, acting, wish), turns)
        play = play_for(house, acting, wish)
        if turns is None:
            self.assertIsNone(play)
            return
        self.assertIs(type(play), list)
        stands = led(house, first_stand(house), play)
        self.assertEqual(sum(is_turn(house, stand, deed) for stand, deed in zip(stands, play)), turns)
        self.assertTrue(plain_is_play(house, acting, wish, play))
        self.assertIs(is_play_for(house, acting, wish, play), True)

    def test_the_market(self):
        self.check(market(), BOTH, CUP, 2)
        self.check(market(), ("ann",), CUP, None)
        self.check(market(), ("bob",), CUP, None)
        self.check(market(), (), CUP, None)
        self.check(market(), ("ann",), (("ann", "cup"),), 1)
        self.check(market(), (), (("ann", "ann"),), 0)
        self.check(market(), (), (("ann", "buy"), ("bob", "get")), 0)
        self.check(market(), BOTH, (("ann", "cup"), ("bob", "ask")), None)
        self.assertIs(type(fewest(market(), BOTH, (("ann", "ann"),))), int)

    def test_each_may_come_but_not_both(self):
        rules = [("pick", 0, "", 1, False, ("cup",)), ("pick", 0, "?", 1, False, ("key",))]
        chest = House(["ann"], ["cup", "key"], [Gate(2, ["pick"], ["cup", "key"], rules)], [("ann", "pick")])
        self.check(chest, ("ann",), (("ann", "cup"),), 1)
        self.check(chest, ("ann",), (("ann", "key"),), 1)
        self.check(chest, ("ann",), (("ann", "cup"), ("ann", "key")), None)

    def test_against_all_stands(self):
        looked = 0
        for seed in range(150):
            house = random_house(seed, 2, 1, 3)
            for acting in groups(house):
                turns = plain_stands(house, acting, 400)
                if turns is None:
                    continue
                looked += len(turns)
                for wish in wishes(house, 2):
                    come = [many for stand, many in turns.items() if has(stand, wish)]
                    self.check(house, acting, wish, min(come, default=None))
        self.assertGreater(looked, 3000)

    def test_just_if_a_node_has_it(self):
        for seed in range(60):
            house = random_house(seed, 3, 2, 3)
            acting = tuple(house.guests())
            found = turns_to(house, acting)
            for wish in wishes(house, 2)[::5] + wishes(house, 3)[-9:]:
                self.assertIs(is_wish(wish), True)
                come = [turns for node, turns in found if has(node, wish)]
                self.assertEqual(fewest(house, acting, wish), min(come, default=None))

    def test_more_that_act_bar_nothing(self):
        for seed in range(40):
            house = random_house(seed, 3, 2, 3)
            rows = groups(house)
            for wish in wishes(house, 1):
                come = [set(acting) for acting in rows if can(house, acting, wish)]
                for acting in rows:
                    if any(lot <= set(acting) for lot in come):
                        self.assertIs(can(house, acting, wish), True)

    def test_equal_houses_in_whatever_order(self):
        self.assertEqual(play_for(market(), BOTH, CUP), play_for(market_in_other_order(), BOTH, CUP))
        for seed in range(30):
            house, other = random_house(seed, 3, 2, 4), shuffled(random_house(seed, 3, 2, 4), seed)
            acting = tuple(house.guests())
            for wish in wishes(house, 1)[::3]:
                self.assertEqual(play_for(house, acting, wish), play_for(other, acting, wish))

    def test_whatever_was_asked_ahead(self):
        house = market()
        play = play_for(house, BOTH, CUP)
        play_for(house, BOTH, CUP).clear()
        can(house, (), CUP)
        fewest(house, ("ann",), (("ann", "cup"),))
        self.assertEqual(play_for(house, BOTH, CUP), play)
        self.assertEqual(house, market_in_other_order())


class IsPlayForTest(unittest.TestCase):
    def test_plays(self):
        self.assertIs(is_play_for(market(), BOTH, CUP, ROW), True)
        longer = [("call", "bob", "get", "get"), *ROW, ("call", "ann", "put", "ann"), ("call", "bob", "get", "")]
        self.assertIs(is_play_for(market(), BOTH, CUP, longer), True)
        self.assertIs(is_play_for(market(), (), (("ann", "buy"),), []), True)
        self.assertIs(is_play_for(market(), BOTH, CUP, []), False)

    def test_one_thing_otherwise(self):
        for thing in otherwise(ROW) + [ROW[::-1], tuple(ROW), ROW[:2], ROW + ROW, ROW + [("throw", "buy")]]:
            expected = plain_is_play(market(), BOTH, CUP, thing)
            self.assertIs(is_play_for(market(), BOTH, CUP, thing), expected, repr(thing))

    def test_others_than_those_who_act(self):
        for acting in [("ann",), ("bob",), ()]:
            self.assertIs(is_play_for(market(), acting, CUP, ROW), False)
        self.assertIs(is_play_for(market(), ("ann",), (("ann", "cup"),), ROW[:1]), True)
        self.assertIs(is_play_for(market(), ("bob",), (("ann", "cup"),), ROW[:1]), False)

    def test_no_throw(self):
        self.assertIs(is_play_for(market(), BOTH, (("ann", "buy"),), [("throw", "buy")]), False)
        self.assertIs(is_play_for(market(), BOTH, (("ann", "buy"),), [("call", "ann", "buy", "")]), True)

    def test_any_value(self):
        wish = (("ann", "buy"),)
        for thing in junk():
            self.assertIs(is_play_for(market(), BOTH, wish, thing), thing == [] and isinstance(thing, list))
            self.assertIs(is_play_for(market(), BOTH, wish, [thing]), False)
            self.assertIs(is_play_for(market(), BOTH, CUP, ROW + [thing]), False)

    def test_what_is_passed_stays(self):
        row = list(ROW)
        is_play_for(market(), BOTH, CUP, row)
        self.assertEqual(row, ROW)


if __name__ == "__main__":
    unittest.main()
