import random
import time
import unittest

from letinside.doing import done
from letinside.fences import fence
from letinside.gates import Gate
from letinside.growing import grown
from letinside.houses import House
from letinside.latefences import is_late_fence, late_fence
from letinside.nodes import nodes
from letinside.stands import first_stand
from letinside.throws import latest
from tests.samples import choice_house, junk, market, market_in_other_order, otherwise, plain_first, plain_grown
from tests.samples import plain_has, plain_next, plain_nodes, plain_throw, random_house, shuffled
from tests.test_fences import covered, plain_is_list
from tests.test_growing import groups
from tests.test_nodes import many_nodes
from tests.test_reach import wishes
from tests.test_throws import opening_of, plain_behind, stairs

BOTH = ("ann", "bob")
CUP = (("bob", "cup"),)


def plain_is_late_fence(house, acting, door, wish, thing):
    """Whether thing is a late fence, from the rules alone."""
    if type(thing) is not tuple or len(thing) != 2:
        return False
    ahead, behind = thing
    if not plain_is_list(house, acting, wish, ahead) or not plain_is_list(house, acting, wish, behind):
        return False
    if not covered([plain_grown(house, plain_first(house), acting)], ahead):
        return False
    if not all(covered(plain_next(house, stand, acting), ahead) for stand in ahead):
        return False
    thrown = [plain_grown(house, plain_throw(house, stand, door), acting) for stand in ahead]
    return covered(thrown, behind) and all(covered(plain_next(house, stand, acting), behind) for stand in behind)


def all_of(house, acting, door):
    """All nodes, and all that comes of them behind a throw, as a tuple of two lists."""
    ahead = nodes(house, acting)
    behind = {stand for node in ahead for stand in plain_nodes(house, acting, plain_throw(house, node, door))}
    return (ahead, sorted(behind))


class LateFenceTest(unittest.TestCase):
    def check(self, house, acting, door, wish, come):
        """Check the late fence of a wish, which can come with a throw at some moment or not."""
        thing = late_fence(house, acting, door, wish)
        self.assertIs(latest(house, acting, door, wish) == ("never",), not come)
        if come:
            self.assertIsNone(thing)
            return
        self.assertEqual([type(thing), len(thing), type(thing[0]), type(thing[1])], [tuple, 2, list, list])
        self.assertTrue(plain_is_late_fence(house, acting, door, wish, thing))
        self.assertIs(is_late_fence(house, acting, door, wish, thing), True)

    def test_the_market(self):
        for door in ["buy", "ask", "get", "put"]:
            self.check(market(), BOTH, door, CUP, True)
            self.check(market(), ("ann",), door, CUP, False)
            self.check(market(), (), door, CUP, False)
            self.check(market(), (), door, (("ann", "buy"),), True)
        begin = first_stand(market())
        self.assertEqual(late_fence(market(), (), "buy", CUP),
                         ([begin], [done(market(), begin, ("throw", "buy"))]))

    def test_the_stairs(self):
        self.check(stairs(), ("ann",), "jam", (("ann", "cup"),), True)
        self.check(stairs(), ("ann",), "jam", (("ann", "jam"),), False)
        self.check(stairs(), ("bob",), "jam", (("ann", "cup"),), False)

    def test_a_wish_that_comes_by_the_throw_alone(self):
        rules = [("da", 0, "", 1, False, ()), ("db", 1, "", 2, False, ("cup",))]
        house = House(["ann"], ["cup"], [Gate(3, ["da", "db"], ["cup"], rules)], [("ann", "db")])
        self.assertIsNotNone(fence(house, ("ann",), (("ann", "cup"),)))
        self.check(house, ("ann",), "da", (("ann", "cup"),), True)
        self.check(house, ("ann",), "db", (("ann", "cup"),), False)
        self.check(house, (), "da", (("ann", "cup"),), False)

    def test_what_grows_behind_the_throw(self):
        gate = Gate(2, ["da", "db"], ["cup"], [("da", 1, "", 1, False, ("cup",)), ("db", 0, "", 1, False, ())])
        house = House(["ann"], ["cup", "key"], [gate], [("ann", "da")])
        begin = first_stand(house)
        end = (((1, ""),), (("ann", ("ann", "cup", "da")),))
        self.check(house, ("ann",), "db", (("ann", "cup"),), True)
        self.check(house, ("ann",), "db", (("ann", "key"),), False)
        self.assertEqual(late_fence(house, ("ann",), "db", (("ann", "key"),)), ([begin], [end]))

    def test_other_houses(self):
        looked = []
        for seed in range(70):
            house = random_house(seed, 3, 2, 3) if seed % 3 == 0 else choice_house(seed)
            acting = groups(house)[-1 - seed % 2]
            if len(plain_nodes(house, acting)) > 20:
                continue
            for door in house.doors()[:2]:
                rows = plain_behind(house, acting, door)
                for wish in wishes(house, 2)[seed % 5::29]:
                    looked.append(opening_of(rows, wish) is not None)
                    self.check(house, acting, door, wish, looked[-1])
        self.assertGreater(looked.count(True), 50)
        self.assertGreater(looked.count(False), 50)

    def test_a_house_of_many_nodes(self):
        began = time.monotonic()
        house, acting, wish = many_nodes(), ("ann", "cat", "dan"), (("ann", "pen"),)
        for door in house.doors():
            told = late_fence(house, acting, door, wish)
            self.assertIs(is_late_fence(house, acting, door, wish, told), True)
            for at in range(0, len(told[0]), 7):
                less = (told[0][:at] + told[0][at + 1:], told[1])
                self.assertIs(is_late_fence(house, acting, door, wish, less), False)
        ahead = nodes(house, acting)
        self.assertIs(is_late_fence(house, acting, "tick", wish, (ahead, ahead)), True)
        self.assertLess(time.monotonic() - began, 20)

    def test_equal_houses_in_whatever_order(self):
        for seed in range(30):
            house, other = choice_house(seed), shuffled(choice_house(seed), seed)
            acting = tuple(house.guests())
            for wish in wishes(house, 1)[::4]:
                door = house.doors()[seed % len(house.doors())]
                self.assertEqual(late_fence(house, acting, door, wish), late_fence(other, acting, door, wish))

    def test_what_is_returned_may_be_changed(self):
        house = market()
        told = late_fence(house, ("ann",), "buy", CUP)
        for stands in late_fence(house, ("ann",), "buy", CUP):
            stands.clear()
        late_fence(house, BOTH, "get", CUP)
        self.assertEqual(late_fence(house, ("ann",), "buy", CUP), told)
        given = (list(told[0]), list(told[1]))
        is_late_fence(house, ("ann",), "buy", CUP, given)
        self.assertEqual(given, told)
        self.assertEqual(house, market_in_other_order())


class IsLateFenceTest(unittest.TestCase):
    def setUp(self):
        self.told = all_of(market(), ("ann",), "buy")

    def tells(self, thing, acting=("ann",), door="buy", wish=CUP):
        """Check whether thing is a late fence of the market, and return it."""
        found = is_late_fence(market(), acting, door, wish, thing)
        self.assertIs(found, plain_is_late_fence(market(), acting, door, wish, thing), repr(thing))
        return found

    def test_of_all_in_any_order(self):
        chance = random.Random(3)
        for _ in range(5):
            for stands in self.told:
                chance.shuffle(stands)
            self.assertTrue(self.tells(self.told))

    def test_of_other_houses(self):
        looked = []
        for seed in range(50):
            house = random_house(seed, 2, 2, 3) if seed % 2 else choice_house(seed)
            acting = groups(house)[-1]
            if len(nodes(house, acting)) > 12:
                continue
            for door in house.doors()[:2]:
                told = all_of(house, acting, door)
                for wish in wishes(house, 1)[::4]:
                    for thing in [told, (told[0], told[0]), (told[0][1:], told[1]), (told[0], told[1][1:])]:
                        expected = plain_is_late_fence(house, acting, door, wish, thing)
                        looked.append(expected)
                        self.assertIs(is_late_fence(house, acting, door, wish, thing), expected)
        self.assertGreater(looked.count(True), 50)
        self.assertGreater(looked.count(False), 50)

    def test_a_stand_out(self):
        ahead, behind = late_fence(market(), ("ann",), "buy", CUP)
        for at in range(len(ahead)):
            self.assertFalse(self.tells((ahead[:at] + ahead[at + 1:], behind)))
        for at in range(len(behind)):
            self.assertFalse(self.tells((ahead, behind[:at] + behind[at + 1:])))
        self.assertFalse(self.tells(([], behind)))
        self.assertFalse(self.tells((ahead, [])))
        self.assertFalse(self.tells(([], [])))

    def test_a_stand_twice(self):
        ahead, behind = self.told
        for stand in ahead[:4]:
            self.assertFalse(self.tells((ahead + [stand], behind)))
        for stand in behind[:4]:
            self.assertFalse(self.tells((ahead, behind + [stand])))

    def test_a_stand_in_both_lists(self):
        ahead, behind = self.told
        both = behind + [stand for stand in ahead if stand not in behind]
        self.assertGreater(len(both), len(behind))
        self.assertTrue(self.tells((ahead, both)))
        self.assertTrue(self.tells((both, both)))

    def test_a_stand_that_is_not_grown(self):
        gate = Gate(2, ["da", "db"], ["cup"], [("da", 1, "", 1, False, ("cup",)), ("db", 0, "", 1, False, ())])
        house = House(["ann"], ["cup", "key"], [gate], [("ann", "da")])
        begin = first_stand(house)
        thrown = done(house, begin, ("throw", "db"))
        end = grown(house, thrown, ("ann",))
        self.assertNotEqual(thrown, end)
        wish = (("ann", "key"),)
        for behind, expected in [([end], True), ([thrown], False), ([end, thrown], False), ([begin, end], True)]:
            self.assertIs(is_late_fence(house, ("ann",), "db", wish, ([begin], behind)), expected)
        self.assertIs(is_late_fence(house, ("ann",), "db", wish, ([begin, end], [end])), True)
        self.assertIs(is_late_fence(house, ("ann",), "db", wish, ([begin, thrown], [end])), False)

    def test_a_stand_that_has_the_wish(self):
        ahead, behind = self.told
        held = (((0, ""), (0, "")), (("ann", ("ann",)), ("bob", ("bob", "cup"))))
        less = (((0, ""), (0, "")), (("ann", ("ann",)), ("bob", ("bob", "get"))))
        self.assertTrue(self.tells((ahead + [less], behind)))
        self.assertTrue(self.tells((ahead, behind + [less])))
        self.assertFalse(self.tells((ahead + [held], behind)))
        self.assertFalse(self.tells((ahead, behind + [held])))
        self.assertFalse(self.tells((nodes(market(), BOTH), nodes(market(), BOTH)), BOTH))

    def test_only_behind_has_the_wish(self):
        rules = [("da", 0, "", 1, False, ()), ("db", 1, "", 1, False, ("cup",))]
        house = House(["ann"], ["cup"], [Gate(2, ["da", "db"], ["cup"], rules)], [("ann", "db")])
        ahead, behind = all_of(house, ("ann",), "da")
        self.assertTrue(plain_has(behind[0], (("ann", "cup"),)))
        self.assertIs(is_late_fence(house, ("ann",), "da", (("ann", "cup"),), (ahead, behind)), False)
        self.assertIs(is_late_fence(house, ("ann",), "da", (("ann", "cup"),), (ahead, ahead)), False)
        self.assertIs(is_late_fence(house, ("ann",), "db", (("ann", "cup"),), (ahead, ahead)), True)

    def test_turns_behind_that_lead_out(self):
        begin = first_stand(market())
        bought = done(market(), begin, ("throw", "buy"))
        self.assertTrue(self.tells(([begin], [bought]), ()))
        self.assertFalse(self.tells(([begin], [bought]), ("ann",)))
        self.assertTrue(self.tells(([begin], [bought]), ("bob",)))
        self.assertFalse(self.tells(([begin], [begin]), ("bob",)))

    def test_lists_and_tuples(self):
        ahead, behind = self.told
        for thing in [[ahead, behind], (tuple(ahead), behind), (ahead, tuple(behind)), (ahead,), (ahead, behind, []),
                      ahead, ahead + behind, {0: ahead, 1: behind}, (ahead, [list(stand) for stand in behind]),
                      ([(list(gates), held) for gates, held in ahead], behind)]:
            self.assertFalse(self.tells(thing))

    def test_one_thing_otherwise(self):
        looked = []
        for acting in [("bob",), ()]:
            for thing in otherwise(late_fence(market(), acting, "buy", CUP)):
                looked.append(self.tells(thing, acting))
        ahead, behind = late_fence(market(), ("ann",), "buy", CUP)
        for thing in otherwise(ahead[0]) + otherwise(behind[-1]):
            looked.append(self.tells(([thing] + ahead[1:], behind)))
            looked.append(self.tells((ahead, behind[:-1] + [thing])))
        self.assertGreater(looked.count(False), 500)

    def test_any_value(self):
        ahead, behind = self.told
        for thing in junk():
            for value in [thing, (thing, thing), (ahead, thing), (thing, behind), (ahead + [thing], behind),
                          (ahead, behind + [thing]), [thing, behind], ([thing], behind)]:
                self.assertIs(is_late_fence(market(), ("ann",), "buy", CUP, value), False)


if __name__ == "__main__":
    unittest.main()
