import time
import unittest

from letinside.doing import led
from letinside.errors import Never
from letinside.gates import Gate
from letinside.houses import House
from letinside.needed import followed, idle, needed, pruned
from letinside.nodes import nodes
from letinside.reach import can, play_for
from letinside.stands import first_stand
from tests.samples import choice_house, market, market_in_other_order, plain_deeds, plain_has, plain_nodes, plain_stands
from tests.samples import random_house, shuffled
from tests.test_growing import groups
from tests.test_nodes import many_nodes
from tests.test_reach import wishes

BOTH = ("ann", "bob")
CUP = (("bob", "cup"),)


def all_keys(house):
    """The keys of all rules."""
    return sorted(rule[:3] for gate in house.gates() for rule in gate.rules())


def key_of(house, stand, deed):
    """The key of the rule by which a deed goes, or None."""
    for gate, (state, _) in zip(house.gates(), stand[0]):
        for rule in gate.rules():
            kind = deed[3] if deed[3] == "" or deed[3] in gate.closet() else "?"
            if deed[0] == "call" and rule[:3] == (deed[2], state, kind):
                return rule[:3]
    return None


def plain_followed(house, stands, acting):
    """The keys of the rules by which a call goes that can be done in one of the stands."""
    keys = {key_of(house, stand, deed) for stand in stands for deed in plain_deeds(house, stand, acting)}
    return sorted(keys - {None})


class FollowedTest(unittest.TestCase):
    def test_the_market(self):
        self.assertEqual(followed(market(), BOTH), [("buy", 0, ""), ("get", 0, ""), ("put", 0, "?")])
        self.assertEqual(idle(market(), BOTH), [("ask", 1, "?")])
        self.assertEqual(followed(market(), ("ann",)), [("buy", 0, ""), ("put", 0, "?")])
        self.assertEqual(idle(market(), ("ann",)), [("ask", 1, "?"), ("get", 0, "")])

    def test_nobody_acting(self):
        self.assertEqual(followed(market(), ()), [])
        self.assertEqual(idle(market(), ()), all_keys(market()))

    def test_no_rules(self):
        house = House(["ann"], [], [Gate(1, ["da"], [], [])], [("ann", "da")])
        self.assertEqual((followed(house, ("ann",)), idle(house, ("ann",))), ([], []))

    def test_a_call_that_is_no_turn_and_one_that_changes_nothing(self):
        rules = [("da", 0, "", 0, False, ("cup",)), ("da", 0, "cup", 0, False, ()), ("da", 0, "?", 0, False, ("ann",)),
                 ("da", 0, "key", 0, False, ()), ("da", 1, "", 0, False, ())]
        house = House(["ann"], ["cup", "key"], [Gate(2, ["da"], ["cup", "key", "ann"], rules[:2] + rules[3:])],
                      [("ann", "da")])
        self.assertEqual(followed(house, ("ann",)), [("da", 0, ""), ("da", 0, "cup")])
        self.assertEqual(idle(house, ("ann",)), [("da", 0, "key"), ("da", 1, "")])
        house = house.with_gate(0, house.gates()[0].with_rule(rules[2]))
        self.assertEqual(followed(house, ("ann",)), [("da", 0, ""), ("da", 0, "?"), ("da", 0, "cup")])

    def test_kinds_that_a_guest_holds_nothing_of(self):
        gate = Gate(1, ["da"], ["ann", "da"], [("da", 0, "?", 0, False, ()), ("da", 0, "da", 0, False, ())])
        house = House(["ann", "bob"], ["cup"], [gate], [("ann", "da")])
        self.assertEqual(followed(house, ("ann",)), [("da", 0, "da")])
        self.assertEqual(followed(house, ("bob",)), [])
        self.assertEqual(followed(house.with_first([("ann", "da"), ("ann", "cup")]), ("ann",)),
                         [("da", 0, "?"), ("da", 0, "da")])

    def test_other_houses(self):
        looked = [0, 0]
        for seed in range(150):
            house = random_house(seed, 2, 1, 3)
            for acting in groups(house):
                stands = plain_stands(house, acting, 400)
                if stands is None:
                    continue
                expected = plain_followed(house, stands, acting)
                rest = [key for key in all_keys(house) if key not in expected]
                self.assertEqual(followed(house, acting), expected)
                self.assertEqual(idle(house, acting), rest)
                looked = [looked[0] + len(expected), looked[1] + len(rest)]
        self.assertGreater(min(looked), 300)

    def test_together_all_rules(self):
        for seed in range(60):
            house = choice_house(seed)
            for acting in groups(house):
                some, rest = followed(house, acting), idle(house, acting)
                self.assertEqual(some, plain_followed(house, nodes(house, acting), acting))
                self.assertEqual(sorted(some + rest), all_keys(house))
                self.assertEqual((some, rest), (sorted(some), sorted(rest)))


class PrunedTest(unittest.TestCase):
    def test_the_market(self):
        less = pruned(market(), BOTH)
        self.assertIs(type(less), House)
        self.assertEqual(less, market().without_rule(("ask", 1, "?")))
        self.assertEqual(pruned(less, BOTH), less)
        self.assertEqual(all_keys(pruned(market(), ())), [])

    def test_all_else_stays(self):
        for seed in range(60):
            house = random_house(seed, 3, 2, 4)
            less = pruned(house, ("ann",))
            self.assertEqual((less.guests(), less.things(), less.doors(), less.first()),
                             (house.guests(), house.things(), house.doors(), house.first()))
            for gate, other in zip(house.gates(), less.gates()):
                self.assertEqual((gate.states, gate.doors(), gate.closet()),
                                 (other.states, other.doors(), other.closet()))
                self.assertEqual(other.rules(),
                                 [rule for rule in gate.rules() if rule[:3] in followed(house, ("ann",))])

    def test_the_same_nodes(self):
        for seed in range(60):
            house = random_house(seed, 3, 2, 3) if seed % 2 else choice_house(seed)
            for acting in groups(house)[::2]:
                less = pruned(house, acting)
                self.assertEqual(nodes(less, acting), nodes(house, acting))
                self.assertEqual(idle(less, acting), [])


class NeededTest(unittest.TestCase):
    def test_the_market(self):
        self.assertEqual(needed(market(), BOTH, CUP), [("buy", 0, ""), ("get", 0, ""), ("put", 0, "?")])
        self.assertEqual(needed(market(), ("ann",), (("ann", "cup"),)), [("buy", 0, "")])

    def test_the_first_stand_has_it(self):
        gate = Gate(1, ["da"], ["cup"], [("da", 0, "", 0, False, ("cup",))])
        house = House(["ann"], ["cup"], [gate], [("ann", "da")])
        for acting in [(), ("ann",)]:
            self.assertEqual(needed(house, acting, (("ann", "da"),)), [])
        self.assertEqual(needed(house, ("ann",), (("ann", "cup"),)), [("da", 0, "")])
        self.assertEqual(needed(house.with_first([("ann", "da"), ("ann", "cup")]), ("ann",), (("ann", "cup"),)), [])
        self.assertEqual(needed(market(), BOTH, (("bob", "bob"),)), [])

    def test_by_hands_alone(self):
        house = market().with_first([("ann", "bob"), ("ann", "cup"), ("ann", "buy")])
        self.assertEqual(needed(house, BOTH, CUP), [])

    def test_never(self):
        for acting, wish in [(("ann",), CUP), ((), CUP), (BOTH, (("ann", "ask"),)), (BOTH, (("ann", "ask"), CUP[0]))]:
            with self.assertRaises(Never) as caught:
                needed(market(), acting, wish)
            self.assertIs(caught.exception.wish, wish)

    def test_of_two_rules_that_do_the_same_none_is(self):
        rules = [("da", 0, "", 1, False, ("cup",)), ("da", 0, "?", 1, False, ("cup",)),
                 ("db", 1, "cup", 1, False, ("key",))]
        house = House(["ann"], ["cup", "key"], [Gate(2, ["da", "db"], ["cup", "key"], rules)],
                      [("ann", "da"), ("ann", "db")])
        self.assertEqual(needed(house, ("ann",), (("ann", "cup"),)), [])
        self.assertEqual(needed(house, ("ann",), (("ann", "key"),)), [("db", 1, "cup")])

    def test_a_rule_in_the_way_of_another_one(self):
        rules = [("da", 0, "", 1, False, ()), ("da", 1, "", 2, False, ("cup",)), ("da", 0, "?", 2, False, ())]
        house = House(["ann"], ["cup"], [Gate(3, ["da"], ["cup"], rules)], [("ann", "da")])
        self.assertEqual(needed(house, ("ann",), (("ann", "cup"),)), [("da", 0, ""), ("da", 1, "")])

    def test_other_houses(self):
        looked = [0, 0]
        for seed in range(120):
            house = random_house(seed, 3, 2, 3) if seed % 2 else choice_house(seed)
            keys = all_keys(house)
            for acting in [tuple(house.guests()), ("ann",)]:
                for wish in wishes(house, 2)[seed % 7::41]:
                    if not can(house, acting, wish):
                        with self.assertRaises(Never):
                            needed(house, acting, wish)
                        looked[1] += 1
                        continue
                    expected = [key for key in keys if not can(house.without_rule(key), acting, wish)]
                    self.assertEqual(needed(house, acting, wish), expected)
                    looked[0] += len(expected)
        self.assertGreater(min(looked), 100)

    def test_against_plain_nodes(self):
        for seed in range(12):
            house = choice_house(seed)
            acting = tuple(house.guests())
            without = {key: list(plain_nodes(house.without_rule(key), acting)) for key in all_keys(house)[:12]}
            for wish in [wish for wish in wishes(house, 1) if can(house, acting, wish)][::2]:
                found = needed(house, acting, wish)
                for key, stands in without.items():
                    self.assertIs(key in found, not any(plain_has(stand, wish) for stand in stands))

    def test_each_play_follows_them(self):
        for seed in range(40):
            house = choice_house(seed)
            acting = tuple(house.guests())
            for wish in [wish for wish in wishes(house, 2)[::7] if can(house, acting, wish)][::3]:
                play = play_for(house, acting, wish)
                stands = led(house, first_stand(house), play)
                keys = {key_of(house, stand, deed) for stand, deed in zip(stands, play)}
                self.assertLessEqual(set(needed(house, acting, wish)), keys)


class AllTest(unittest.TestCase):
    def test_a_house_of_many_nodes(self):
        began = time.monotonic()
        house, acting = many_nodes(), ("ann", "bob", "cat", "dan")
        self.assertEqual(followed(house, acting), all_keys(house))
        self.assertEqual(needed(house, acting, (("dan", "cup"),)),
                         [("get", 0, ""), ("put", 0, "?"), ("tick", 0, ""), ("tick", 1, ""), ("tick", 2, "")])
        self.assertEqual(nodes(pruned(house, ("ann", "cat")), ("ann", "cat")), nodes(house, ("ann", "cat")))
        self.assertLess(time.monotonic() - began, 20)

    def test_equal_houses_in_whatever_order(self):
        self.assertEqual(needed(market(), BOTH, CUP), needed(market_in_other_order(), BOTH, CUP))
        for seed in range(40):
            house, other = choice_house(seed), shuffled(choice_house(seed), seed)
            acting = tuple(house.guests())
            self.assertEqual(followed(house, acting), followed(other, acting))
            self.assertEqual(idle(house, acting), idle(other, acting))
            self.assertEqual(pruned(house, acting), pruned(other, acting))
            for wish in [wish for wish in wishes(house, 1) if can(house, acting, wish)][::3]:
                self.assertEqual(needed(house, acting, wish), needed(other, acting, wish))

    def test_what_is_returned_may_be_changed(self):
        house = market()
        told = [followed(house, BOTH), idle(house, BOTH), needed(house, BOTH, CUP)]
        followed(house, BOTH).clear()
        idle(house, BOTH).clear()
        needed(house, BOTH, CUP).clear()
        idle(house, ())
        self.assertEqual([followed(house, BOTH), idle(house, BOTH), needed(house, BOTH, CUP)], told)
        self.assertEqual(house, market_in_other_order())


if __name__ == "__main__":
    unittest.main()
