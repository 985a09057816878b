import random
import time
import unittest

from letinside.doing import done
from letinside.fences import fence, is_fence
from letinside.gates import Gate
from letinside.growing import grown, is_grown
from letinside.houses import House
from letinside.nodes import nodes
from letinside.reach import can
from letinside.stands import first_stand, has, is_stand, within
from tests.samples import choice_house, junk, market, market_in_other_order, otherwise, plain_first, plain_grown
from tests.samples import plain_has, plain_next, plain_nodes, plain_within, random_house, shuffled
from tests.test_growing import groups
from tests.test_nodes import many_nodes
from tests.test_reach import wishes

BOTH = ("ann", "bob")
CUP = (("bob", "cup"),)


def plain_is_list(house, acting, wish, thing):
    """Whether thing is a list of different grown stands without a wish, from the rules alone."""
    if type(thing) is not list or not all(is_stand(house, stand) for stand in thing):
        return False
    if any(one == other for at, one in enumerate(thing) for other in thing[at + 1:]):
        return False
    return all(plain_grown(house, stand, acting) == stand and not plain_has(stand, wish) for stand in thing)


def covered(stands, fence_list):
    """Whether each of the stands is within one of a list."""
    return all(any(plain_within(stand, other) for other in fence_list) for stand in stands)


def plain_is_fence(house, acting, wish, thing):
    """Whether thing is a fence, from the rules alone."""
    if not plain_is_list(house, acting, wish, thing):
        return False
    if not covered([plain_grown(house, plain_first(house), acting)], thing):
        return False
    return all(covered(plain_next(house, stand, acting), thing) for stand in thing)


def holding_more(house, acting, names):
    """All that comes of the first stand if all guests held further names, too."""
    gates, held = plain_first(house)
    begin = (gates, tuple((guest, tuple(sorted({*own, *names}))) for guest, own in held))
    return list(plain_nodes(house, acting, begin))


class FenceTest(unittest.TestCase):
    def check(self, house, acting, wish, come):
        """Check the fence of a wish, which can come or not."""
        thing = fence(house, acting, wish)
        if come:
            self.assertIsNone(thing)
            return
        self.assertIs(type(thing), list)
        self.assertTrue(plain_is_fence(house, acting, wish, thing))
        self.assertIs(is_fence(house, acting, wish, thing), True)

    def test_the_market(self):
        self.check(market(), BOTH, CUP, True)
        self.check(market(), ("ann",), CUP, False)
        self.check(market(), ("bob",), CUP, False)
        self.check(market(), (), CUP, False)
        self.check(market(), (), (("ann", "buy"),), True)
        self.check(market(), (), (("ann", "ann"), ("bob", "bob")), True)
        self.assertEqual(fence(market(), (), CUP), [first_stand(market())])

    def test_a_house_with_one_guest_and_nothing(self):
        house = House(["ann"], ["cup"], [], [])
        self.assertEqual(fence(house, ("ann",), (("ann", "cup"),)), [((), (("ann", ("ann",)),))])
        self.assertIsNone(fence(house, ("ann",), (("ann", "ann"),)))

    def test_just_if_the_wish_cannot_come(self):
        shut = 0
        for seed in range(70):
            house = random_house(seed, 3, 2, 3) if seed % 2 else choice_house(seed)
            for acting in groups(house)[::3] + [tuple(house.guests())]:
                found = plain_nodes(house, acting)
                for wish in wishes(house, 2)[::5]:
                    come = any(plain_has(node, wish) for node in found)
                    thing = fence(house, acting, wish)
                    self.assertIs(thing is None, come)
                    self.assertIs(can(house, acting, wish), come)
                    if thing is not None:
                        shut += 1
                        self.assertTrue(covered(found, thing))
        self.assertGreater(shut, 1000)

    def test_told_fences_of_other_houses(self):
        for seed in range(40):
            house = random_house(seed, 3, 2, 3)
            for acting in groups(house)[::3]:
                for wish in wishes(house, 1)[::3]:
                    self.check(house, acting, wish, can(house, acting, wish))

    def test_a_turn_that_can_be_done_by_one_who_is_handed_the_door(self):
        gate = Gate(2, ["da"], ["cup"], [("da", 0, "", 1, False, ("cup",))])
        house = House(["ann", "bob"], ["cup"], [gate], [("ann", "bob"), ("ann", "da")])
        self.check(house, ("ann",), CUP, True)
        self.check(house, ("bob",), CUP, False)
        self.check(house, BOTH, CUP, True)

    def test_a_house_of_many_nodes(self):
        began = time.monotonic()
        acting = ("ann", "bob", "cat", "dan")
        for wish in [(("ann", "pen"),), (("dan", "flip"),), (("bob", "dan"),)]:
            house = many_nodes()
            thing = fence(house, acting, wish)
            self.assertIs(thing is None, can(house, acting, wish))
            if thing is not None:
                self.assertIs(is_fence(house, acting, wish, thing), True)
                self.assertIs(is_fence(house, acting, wish, nodes(house, acting)), True)
                for at in range(0, len(thing), 9):
                    self.assertIs(is_fence(house, acting, wish, thing[:at] + thing[at + 1:]), False)
        self.assertIsNotNone(fence(many_nodes(), acting, (("ann", "pen"),)))
        self.assertLess(time.monotonic() - began, 20)

    def test_equal_houses_in_whatever_order(self):
        self.assertEqual(fence(market(), ("ann",), CUP), fence(market_in_other_order(), ("ann",), CUP))
        for seed in range(30):
            house, other = random_house(seed, 3, 2, 4), shuffled(random_house(seed, 3, 2, 4), seed)
            acting = tuple(house.guests())
            for wish in wishes(house, 1)[::3]:
                self.assertEqual(fence(house, acting, wish), fence(other, acting, wish))

    def test_whatever_was_asked_and_changed_ahead(self):
        house = market()
        told = fence(house, ("ann",), CUP)
        fence(house, ("ann",), CUP).clear()
        fence(house, BOTH, CUP)
        self.assertEqual(fence(house, ("ann",), CUP), told)
        given = list(told)
        is_fence(house, ("ann",), CUP, given)
        self.assertEqual(given, told)
        self.assertEqual(house, market_in_other_order())


class IsFenceTest(unittest.TestCase):
    def test_of_all_nodes_in_any_order(self):
        chance = random.Random(1)
        for seed in range(40):
            house = random_house(seed, 3, 2, 3)
            acting = tuple(house.guests())
            found = nodes(house, acting)
            for wish in wishes(house, 1)[::2]:
                chance.shuffle(found)
                expected = not can(house, acting, wish)
                self.assertIs(is_fence(house, acting, wish, found), expected)

    def test_one_node_out(self):
        looked = set()
        for seed in range(40):
            house = random_house(seed, 2, 1, 3)
            acting = tuple(house.guests())
            found = nodes(house, acting)[:40]
            for wish in [wish for wish in wishes(house, 1) if not can(house, acting, wish)][:2]:
                for at in range(len(found)):
                    less = found[:at] + found[at + 1:]
                    expected = plain_is_fence(house, acting, wish, less)
                    looked.add(expected)
                    self.assertIs(is_fence(house, acting, wish, less), expected)
        self.assertEqual(looked, {True, False})

    def test_of_such_that_hold_more(self):
        looked = []
        for seed in range(60):
            house = random_house(seed, 2, 2, 3)
            for acting in groups(house):
                more = holding_more(house, acting, house.objects()[:1] + house.doors()[:1])
                for wish in wishes(house, 1)[::2]:
                    expected = plain_is_fence(house, acting, wish, more)
                    looked.append(expected)
                    self.assertIs(is_fence(house, acting, wish, more), expected)
                    both = more + [node for node in nodes(house, acting) if node not in more]
                    self.assertIs(is_fence(house, acting, wish, both), expected)
        self.assertGreater(looked.count(True), 50)
        self.assertGreater(looked.count(False), 50)

    def test_no_node_has_to_be_in_it(self):
        house = market()
        more = holding_more(house, ("ann",), ["buy", "put"])
        self.assertFalse(set(more) & set(nodes(house, ("ann",))))
        self.assertIs(is_fence(house, ("ann",), CUP, more), True)

    def test_a_stand_twice(self):
        told = nodes(market(), ("ann",))
        self.assertIs(is_fence(market(), ("ann",), CUP, told), True)
        for stand in told:
            self.assertIs(is_fence(market(), ("ann",), CUP, told + [stand]), False)

    def test_a_stand_that_is_not_grown(self):
        gate = Gate(2, ["da"], ["cup"], [("da", 0, "", 0, False, ("cup",))])
        house = House(["ann", "bob"], ["cup", "key"], [gate], [("ann", "da")])
        wish = (("ann", "key"),)
        begin = first_stand(house)
        end = grown(house, begin, ("ann",))
        self.assertIs(is_grown(house, begin, ("ann",)), False)
        self.assertIs(is_fence(house, ("ann",), wish, [end]), True)
        self.assertIs(is_fence(house, ("ann",), wish, [begin]), False)
        self.assertIs(is_fence(house, ("ann",), wish, [end, begin]), False)
        self.assertIs(is_fence(house, ("bob",), wish, [begin]), True)

    def test_a_stand_that_has_the_wish(self):
        house = market()
        told = nodes(house, ("ann",))
        held = (((0, ""), (0, "")), (("ann", ("ann",)), ("bob", ("bob", "cup"))))
        self.assertTrue(is_grown(house, held, ("ann",)) and has(held, CUP))
        self.assertIs(is_fence(house, ("ann",), CUP, told + [held]), False)
        less = (held[0], (("ann", ("ann",)), ("bob", ("bob", "get"))))
        self.assertIs(is_fence(house, ("ann",), CUP, told + [less]), True)

    def test_a_stand_whose_turns_lead_out(self):
        house = market()
        told = nodes(house, ("ann",))
        out = (((0, ""), (0, "")), (("ann", ("ann", "ask", "buy", "get", "put")), ("bob", ("bob", "get"))))
        self.assertIs(is_grown(house, out, ("ann",)), True)
        self.assertIs(is_fence(house, ("ann",), CUP, told + [out]), False)

    def test_the_first_stand_is_within_none(self):
        house = market()
        end = [node for node in nodes(house, ("bob",))]
        self.assertEqual(len(end), 1)
        self.assertIs(is_fence(house, ("bob",), CUP, []), False)
        other = done(house, first_stand(house), ("call", "ann", "buy", ""))
        self.assertFalse(within(end[0], other))
        self.assertIs(is_fence(house, ("bob",), CUP, [other]), False)
        self.assertIs(is_fence(house, ("bob",), CUP, [other] + end), True)
        less = (end[0][0], (("ann", ("ann",)), ("bob", ("bob",))))
        self.assertIs(is_fence(house, ("bob",), CUP, [less]), False)

    def test_one_thing_otherwise(self):
        looked = []
        for acting in [("ann",), ("bob",), ()]:
            told = fence(market(), acting, CUP)
            for thing in otherwise(told[:3]) if len(told) > 3 else otherwise(told):
                thing = thing + told[3:] if isinstance(thing, list) else thing
                expected = plain_is_fence(market(), acting, CUP, thing)
                looked.append(expected)
                self.assertIs(is_fence(market(), acting, CUP, thing), expected, repr(thing))
        self.assertGreater(looked.count(False), 500)

    def test_lists_and_tuples(self):
        told = nodes(market(), ("ann",))
        self.assertIs(is_fence(market(), ("ann",), CUP, told), True)
        self.assertIs(is_fence(market(), ("ann",), CUP, tuple(told)), False)
        self.assertIs(is_fence(market(), ("ann",), CUP, {node: True for node in told}), False)
        for at, (gates, held) in enumerate(told):
            for stand in [[gates, held], (list(gates), held), (gates, list(held)),
                          ((list(gates[0]), gates[1]), held), (gates, (list(held[0]), held[1])),
                          (gates, ((held[0][0], list(held[0][1])), held[1]))]:
                thing = told[:at] + [stand] + told[at + 1:]
                self.assertIs(is_fence(market(), ("ann",), CUP, thing), False)

    def test_truths_for_states(self):
        told = nodes(market(), ("ann",))
        for at, (gates, held) in enumerate(told):
            for truth in [False, True]:
                for gates_too in [((truth, gates[0][1]), gates[1]), (gates[0], (truth, gates[1][1]))]:
                    thing = told[:at] + [(gates_too, held)] + told[at + 1:]
                    self.assertIs(is_fence(market(), ("ann",), CUP, thing), False)

    def test_any_value(self):
        told = nodes(market(), ("ann",))
        for thing in junk():
            self.assertIs(is_fence(market(), ("ann",), CUP, thing), False)
            self.assertIs(is_fence(market(), ("ann",), CUP, [thing]), False)
            self.assertIs(is_fence(market(), ("ann",), CUP, told + [thing]), False)

    def test_a_wish_that_can_come_has_none(self):
        for thing in [nodes(market(), BOTH), nodes(market(), ("ann",)), fence(market(), ("ann",), CUP)]:
            self.assertIs(is_fence(market(), BOTH, CUP, thing), False)


if __name__ == "__main__":
    unittest.main()
