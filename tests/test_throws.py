import time
import unittest

from letinside.doing import is_turn, led
from letinside.gates import Gate
from letinside.houses import House
from letinside.reach import can, fewest, play_for
from letinside.stands import first_stand
from letinside.throws import bars, is_late_play, late_play, latest
from tests.samples import choice_house, junk, market, market_in_other_order, otherwise, plain_deeds, plain_first
from tests.samples import plain_has, plain_nodes, plain_stands, plain_throw, random_house, shuffled
from tests.test_growing import groups
from tests.test_nodes import many_nodes
from tests.test_reach import wishes

BOTH = ("ann", "bob")
CUP = (("bob", "cup"),)
ROW = [("call", "ann", "buy", ""), ("call", "ann", "put", "cup"), ("call", "bob", "get", "")]
LATE = [ROW[0], ("throw", "buy"), ROW[1], ROW[2]]


def stairs():
    """A house with a gate of four states up to a cup, a door that goes back, and one that does nothing."""
    rules = [("step", at, "", at + 1, False, ("cup",) if at == 2 else ()) for at in range(3)]
    rules += [("back", at, "", 0, False, ()) for at in range(1, 4)] + [("jam", at, "", 3, False, ()) for at in range(3)]
    gates = [Gate(4, ["step", "back", "jam"], ["cup"], rules), Gate(1, ["idle"], [], [])]
    return House(["ann", "bob"], ["cup"], gates, [("ann", "step")])


def plain_behind(house, acting, door):
    """The tuples of the turns ahead of a throw and the nodes behind it, for all nodes, from the rules alone."""
    found = plain_nodes(house, acting)
    return [(turns, list(plain_nodes(house, acting, plain_throw(house, node, door)))) for node, turns in found.items()]


def opening_of(rows, wish):
    """The fewest turns ahead of a throw with which a wish can come, by rows of turns and stands behind."""
    return min((turns for turns, behind in rows if any(plain_has(stand, wish) for stand in behind)), default=None)


def plain_is_late_play(house, acting, door, turns, wish, thing):
    """Whether thing is a late play, from the rules alone."""
    if type(thing) is not list:
        return False
    stand, ahead, throws = plain_first(house), 0, 0
    for deed in thing:
        if type(deed) is not tuple:
            return False
        if deed == ("throw", door) and type(deed[1]) is str:
            stand, throws = plain_throw(house, stand, door), throws + 1
            continue
        behind = plain_deeds(house, stand, acting)
        if not all(type(part) is str for part in deed) or deed not in list(behind):
            return False
        ahead += throws == 0 and behind[deed][0] != stand[0]
        stand = behind[deed]
    return throws == 1 and ahead <= turns and plain_has(stand, wish)


class BarsTest(unittest.TestCase):
    def check(self, house, acting, door, wish, opening):
        """Check all that is told of a throw with which a wish can come from so many turns ahead on, or never."""
        for turns in range(7):
            self.assertIs(bars(house, acting, door, turns, wish), opening is None or turns < opening)
        told = latest(house, acting, door, wish)
        play = late_play(house, acting, door, wish)
        if opening is None:
            self.assertEqual(told, ("never",))
            self.assertIsNone(play)
            return
        self.assertEqual(told, ("no",) if opening == 0 else ("upto", opening - 1))
        self.assertIs(type(play), list)
        self.assertTrue(plain_is_late_play(house, acting, door, opening, wish, play))
        for turns in range(5):
            self.assertIs(is_late_play(house, acting, door, turns, wish, play), turns >= opening)
        stands = led(house, first_stand(house), play)
        at = play.index(("throw", door))
        self.assertEqual(sum(is_turn(house, stand, deed) for stand, deed in zip(stands[:at], play)), opening)

    def test_the_market(self):
        self.check(market(), BOTH, "buy", CUP, 1)
        self.check(market(), BOTH, "get", CUP, 0)
        self.check(market(), BOTH, "ask", CUP, 0)
        self.check(market(), BOTH, "put", CUP, 0)
        self.check(market(), ("ann",), "buy", CUP, None)
        self.check(market(), ("ann",), "buy", (("ann", "cup"),), 1)
        self.check(market(), (), "buy", (("ann", "cup"),), None)
        self.check(market(), (), "buy", (("ann", "buy"),), 0)

    def test_at_each_number_of_turns(self):
        house = stairs()
        wish = (("ann", "cup"),)
        self.assertEqual(fewest(house, ("ann",), wish), 3)
        self.check(house, ("ann",), "jam", wish, 3)
        self.check(house, ("ann",), "back", wish, 0)
        self.check(house, ("ann",), "step", wish, 0)
        self.check(house, ("bob",), "jam", wish, None)
        for turns, expected in [(0, True), (1, True), (2, True), (3, False), (4, False), (10 ** 9, False)]:
            self.assertIs(bars(house, ("ann",), "jam", turns, wish), expected)

    def test_what_is_held_ahead_of_the_throw_counts(self):
        house = stairs().with_first([("ann", "step"), ("ann", "bob"), ("ann", "cup")])
        self.check(house, ("ann",), "jam", (("bob", "cup"),), 0)
        self.check(house, (), "jam", (("ann", "cup"),), 0)
        self.assertEqual(late_play(house, (), "jam", (("ann", "cup"),)), [("throw", "jam")])
        rules = [("da", 0, "", 0, False, ("cup",)), ("db", 0, "", 1, False, ()), ("db", 1, "", 1, False, ())]
        still = House(["ann"], ["cup"], [Gate(2, ["da", "db"], ["cup"], rules)], [("ann", "da")])
        self.check(still, ("ann",), "db", (("ann", "cup"),), 0)
        self.check(still, (), "db", (("ann", "cup"),), None)

    def test_a_throw_that_changes_nothing(self):
        house = stairs()
        self.check(house, ("ann",), "idle", (("ann", "cup"),), 0)
        self.check(house, ("ann",), "idle", (("ann", "jam"),), None)
        play = late_play(house, ("ann",), "idle", (("ann", "cup"),))
        self.assertEqual([deed for deed in play if deed[0] == "call"], [("call", "ann", "step", "")] * 3)

    def test_a_throw_tells_nobody_anything(self):
        rules = [("da", 0, "", 1, False, ("cup", "cup")), ("db", 1, "", 0, False, ())]
        house = House(["ann"], ["cup"], [Gate(2, ["da", "db"], ["cup"], rules)], [("ann", "db")])
        self.check(house, ("ann",), "da", (("ann", "cup"),), None)

    def test_a_throw_that_only_opens(self):
        rules = [("da", 0, "", 1, False, ()), ("db", 1, "", 2, False, ("cup",)), ("db", 0, "", 0, False, ())]
        house = House(["ann"], ["cup"], [Gate(3, ["da", "db"], ["cup"], rules)], [("ann", "db")])
        self.assertIs(can(house, ("ann",), (("ann", "cup"),)), False)
        self.check(house, ("ann",), "da", (("ann", "cup"),), 0)
        self.assertEqual(late_play(house, ("ann",), "da", (("ann", "cup"),))[-1], ("call", "ann", "db", ""))

    def test_a_throw_that_opens_only_late(self):
        rules = [("da", 0, "", 3, False, ()), ("db", 0, "", 1, False, ()), ("da", 1, "", 2, False, ()),
                 ("db", 2, "", 2, False, ("cup",))]
        house = House(["ann"], ["cup"], [Gate(4, ["da", "db"], ["cup"], rules)], [("ann", "db")])
        self.assertIs(can(house, ("ann",), (("ann", "cup"),)), False)
        self.check(house, ("ann",), "da", (("ann", "cup"),), 1)

    def test_never_so_it_cannot_come_without_a_throw_either(self):
        for seed in range(60):
            house = random_house(seed, 3, 2, 3) if seed % 2 else choice_house(seed)
            acting = tuple(house.guests()[:2])
            for wish in wishes(house, 1)[::5]:
                if latest(house, acting, house.doors()[0], wish) == ("never",):
                    self.assertIs(can(house, acting, wish), False)
                    self.assertIsNone(play_for(house, acting, wish))

    def test_other_houses(self):
        openings = []
        for seed in range(110):
            house = random_house(seed, 3, 2, 3) if seed % 3 == 0 else choice_house(seed)
            acting = groups(house)[-1 - seed % 2]
            if len(plain_nodes(house, acting)) > 20:
                continue
            for door in house.doors()[:2]:
                rows = plain_behind(house, acting, door)
                for wish in wishes(house, 2)[seed % 5::19]:
                    openings.append(opening_of(rows, wish))
                    self.check(house, acting, door, wish, openings[-1])
        for opening in [None, 0, 1, 2]:
            self.assertGreater(openings.count(opening), 2, opening)

    def test_against_all_stands(self):
        openings = []
        for seed in range(150):
            house = random_house(seed, 2, 1, 3)
            acting = groups(house)[-1]
            ahead = plain_stands(house, acting, 60)
            if ahead is None:
                continue
            for door in house.doors()[:2]:
                rows = [(turns, plain_stands(house, acting, 200, plain_throw(house, stand, door)))
                        for stand, turns in ahead.items()]
                if any(behind is None for _, behind in rows):
                    continue
                for wish in wishes(house, 1)[::3]:
                    openings.append(opening_of(rows, wish))
                    self.check(house, acting, door, wish, openings[-1])
        self.assertGreater(len(openings), 300)

    def test_what_bars_late_bars_earlier(self):
        for seed in range(40):
            house = choice_house(seed)
            acting = tuple(house.guests())
            for wish in wishes(house, 1)[::4]:
                row = [bars(house, acting, house.doors()[-1], turns, wish) for turns in range(5)]
                self.assertEqual(row, sorted(row, reverse=True))

    def test_a_house_of_many_nodes(self):
        began = time.monotonic()
        house, acting = many_nodes(), ("ann", "cat", "dan")
        for door in house.doors():
            for wish in [(("dan", "cup"),), (("dan", "key"),), (("bob", "pen"),), (("ann", "cup"), ("cat", "key"))]:
                play = late_play(house, acting, door, wish)
                told = latest(house, acting, door, wish)
                self.assertIs(play is None, told == ("never",))
                if play is not None:
                    opening = told[1] + 1 if told[0] == "upto" else 0
                    self.assertIs(is_late_play(house, acting, door, opening, wish, play), True)
                    self.assertIs(is_late_play(house, acting, door, opening - 1, wish, play), False)
        self.assertEqual(latest(house, acting, "tick", (("dan", "cup"),)), ("no",))
        self.assertLess(time.monotonic() - began, 20)

    def test_equal_houses_in_whatever_order(self):
        for seed in range(40):
            house, other = choice_house(seed), shuffled(choice_house(seed), seed)
            acting = tuple(house.guests())
            for wish in wishes(house, 1)[::4]:
                door = house.doors()[seed % len(house.doors())]
                self.assertEqual(latest(house, acting, door, wish), latest(other, acting, door, wish))
                self.assertEqual(late_play(house, acting, door, wish), late_play(other, acting, door, wish))

    def test_what_is_returned_may_be_changed(self):
        house = market()
        told = late_play(house, BOTH, "buy", CUP)
        late_play(house, BOTH, "buy", CUP).clear()
        latest(house, (), "get", CUP)
        self.assertEqual(late_play(house, BOTH, "buy", CUP), told)
        given = list(told)
        is_late_play(house, BOTH, "buy", 1, CUP, given)
        self.assertEqual(given, told)
        self.assertEqual(house, market_in_other_order())


class IsLatePlayTest(unittest.TestCase):
    def test_plays(self):
        self.assertIs(is_late_play(market(), BOTH, "buy", 1, CUP, LATE), True)
        self.assertIs(is_late_play(market(), BOTH, "buy", 2, CUP, LATE), True)
        self.assertIs(is_late_play(market(), BOTH, "buy", 0, CUP, LATE), False)
        self.assertIs(is_late_play(market(), BOTH, "buy", 1, (("bob", "buy"),), LATE), False)
        still = [("call", "bob", "get", "get"), *LATE, ("call", "bob", "get", "")]
        self.assertIs(is_late_play(market(), BOTH, "buy", 1, CUP, still), True)
        self.assertIs(is_late_play(market(), BOTH, "get", 0, CUP, [("throw", "get"), *ROW]), True)
        self.assertIs(is_late_play(market(), (), "get", 0, (("bob", "get"),), [("throw", "get")]), True)

    def test_turns_behind_the_throw_do_not_count(self):
        for at in range(4):
            play = ROW[:at] + [("throw", "ask")] + ROW[at:]
            for turns in range(4):
                self.assertIs(is_late_play(market(), BOTH, "ask", turns, CUP, play), turns >= min(at, 2))

    def test_no_throw_and_two(self):
        self.assertIs(is_late_play(market(), BOTH, "get", 9, CUP, ROW), False)
        self.assertIs(is_late_play(market(), BOTH, "get", 9, CUP, [("throw", "get"), *ROW, ("throw", "get")]), False)
        self.assertIs(is_late_play(market(), BOTH, "get", 9, (("bob", "get"),), []), False)
        self.assertIs(is_late_play(market(), BOTH, "get", 9, CUP, [*ROW, ("throw", "get")]), True)

    def test_a_throw_of_another_door(self):
        self.assertIs(is_late_play(market(), BOTH, "ask", 9, CUP, LATE), False)
        self.assertIs(is_late_play(market(), BOTH, "get", 9, CUP, [("throw", "ask"), *ROW]), False)
        self.assertIs(is_late_play(market(), BOTH, "get", 9, CUP, [("throw", "ask"), ("throw", "get"), *ROW]), False)
        self.assertIs(is_late_play(market(), BOTH, "get", 9, CUP, [("throw", "cup"), *ROW]), False)

    def test_of_who_does_not_act(self):
        for acting in [("ann",), ("bob",), ()]:
            self.assertIs(is_late_play(market(), acting, "buy", 9, CUP, LATE), False)
        self.assertIs(is_late_play(market(), ("ann",), "buy", 9, (("ann", "cup"),), LATE[:3]), True)

    def test_one_that_cannot_be_done(self):
        early = [("throw", "buy"), *ROW]
        self.assertIs(is_late_play(market(), BOTH, "buy", 9, CUP, early), False)
        self.assertIs(is_late_play(market(), BOTH, "buy", 9, (("bob", "get"),), early), False)
        self.assertIs(is_late_play(market(), BOTH, "buy", 9, CUP, LATE[::-1]), False)

    def test_one_thing_otherwise(self):
        looked = []
        for thing in otherwise(LATE) + [tuple(LATE), LATE[:3], LATE + LATE, LATE[1:]]:
            for turns in [0, 1, 2]:
                expected = plain_is_late_play(market(), BOTH, "buy", turns, CUP, thing)
                looked.append(expected)
                self.assertIs(is_late_play(market(), BOTH, "buy", turns, CUP, thing), expected, repr(thing))
        self.assertGreater(looked.count(False), 200)
        self.assertIn(True, looked)

    def test_any_value(self):
        wish = (("ann", "buy"),)
        for thing in junk():
            self.assertIs(is_late_play(market(), BOTH, "buy", 1, wish, thing), False)
            self.assertIs(is_late_play(market(), BOTH, "buy", 1, wish, [thing]), False)
            self.assertIs(is_late_play(market(), BOTH, "buy", 1, wish, [("throw", "buy"), thing]), False)
            self.assertIs(is_late_play(market(), BOTH, "buy", 1, wish, [thing, ("throw", "buy")]), False)
        self.assertIs(is_late_play(market(), BOTH, "buy", 1, wish, [("throw", "buy")]), True)


if __name__ == "__main__":
    unittest.main()
