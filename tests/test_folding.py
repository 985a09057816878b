import random
import time
import unittest

from letinside.ends import ever
from letinside.folding import folded, folded_house, state_lots
from letinside.gates import Gate
from letinside.houses import House
from letinside.reach import can, fewest
from letinside.views import see_same
from tests.samples import choice_house, market, market_in_other_order, post, random_gate, random_house, shop, shuffled
from tests.test_growing import groups
from tests.test_reach import wishes
from tests.viewing import names_of, unfolded, unfolded_house


def plain_alike(gate):
    """The widest relation: all pairs of states, but for those that are found to be unlike, one after another."""
    rules = {rule[:3]: rule[3:] for rule in gate.rules()}
    alike = {(one, other) for one in range(gate.states) for other in range(gate.states)}
    keys = {(door, kind) for door, _, kind in rules}
    changing = True
    while changing:
        changing = False
        for one, other in sorted(alike):
            for door, kind in keys:
                mine, theirs = rules.get((door, one, kind)), rules.get((door, other, kind))
                if (mine is None) != (theirs is None) or mine is not None and (
                        mine[1:] != theirs[1:] or (mine[0], theirs[0]) not in alike):
                    alike.discard((one, other))
                    changing = True
    return alike


def plain_lots(gate):
    """The lots of states that are alike."""
    alike = plain_alike(gate)
    return sorted({tuple(other for other in range(gate.states) if (one, other) in alike) for one in range(gate.states)})


def plain_folded(gate):
    """The folded Gate, worked out from the plain lots."""
    lot_of = {state: lot for lot in plain_lots(gate) for state in lot}
    come = {lot_of[0]}
    for _ in range(gate.states):
        come |= {lot_of[later] for _, state, _, later, _, _ in gate.rules() if lot_of[state] in come}
    row = sorted(come)
    rules = {(door, row.index(lot_of[state]), kind, row.index(lot_of[later]), keeps, told)
             for door, state, kind, later, keeps, told in gate.rules() if lot_of[state] in come}
    return Gate(len(row), gate.doors(), gate.closet(), sorted(rules))


def some_gate(seed):
    """A Gate that depends on the seed alone, with some states that are alike."""
    chance = random.Random(seed)
    closet = chance.sample(["ann", "cup", "da", "key"], chance.randint(0, 3))
    gate = random_gate(chance, chance.randint(1, 5), ["da", "db"][:chance.randint(1, 2)], closet, seed % 2 == 0)
    for _ in range(seed % 3):
        gate = unfolded(gate, seed)
    if seed % 4 == 0:
        rules = [rule for rule in gate.rules() if rule[1] != gate.states - 1]
        gate = Gate(gate.states + 1, gate.doors(), gate.closet(), rules)
    return gate


def chain(states, told=("cup",)):
    """A Gate whose states differ only by how far they are from the last one."""
    rules = [("da", at, "", at + 1, False, ()) for at in range(states - 1)] + [("da", states - 1, "", 0, False, told)]
    return Gate(states, ["da"], ["cup"], rules)


class StateLotsTest(unittest.TestCase):
    def test_shops(self):
        self.assertEqual(state_lots(shop()), [[0], [1]])
        self.assertEqual(state_lots(post()), [[0]])
        self.assertEqual(state_lots(Gate(3, ["da"], [], [])), [[0, 1, 2]])

    def test_what_is_alike(self):
        base = ("da", 0, "?", 0, False, ("cup",))
        for rule, alike in [(("da", 1, "?", 1, False, ("cup",)), True), (("da", 1, "?", 0, False, ("cup",)), True),
                            (("da", 1, "?", 1, True, ("cup",)), False), (("da", 1, "?", 1, False, ()), False),
                            (("da", 1, "?", 1, False, ("cup", "cup")), False),
                            (("db", 1, "?", 1, False, ("cup",)), False),
                            (("da", 1, "", 1, False, ("cup",)), False), (("da", 1, "cup", 1, False, ("cup",)), False),
                            (("da", 1, "?", 2, False, ("cup",)), False), (("da", 0, "", 0, False, ()), False)]:
            gate = Gate(3, ["da", "db"], ["cup"], [base, rule])
            self.assertEqual(state_lots(gate)[0], [0, 1] if alike else [0], rule)

    def test_order_of_what_is_told(self):
        rules = [("da", 0, "", 0, False, ("cup", "key")), ("da", 1, "", 1, False, ("key", "cup"))]
        self.assertEqual(state_lots(Gate(2, ["da"], ["cup", "key"], rules)), [[0], [1]])

    def test_the_widest_relation(self):
        rules = [("da", at, "", (at + 1) % 6, False, ("cup",) if at % 2 else ()) for at in range(6)]
        self.assertEqual(state_lots(Gate(6, ["da"], ["cup"], rules)), [[0, 2, 4], [1, 3, 5]])
        self.assertEqual(state_lots(Gate(6, ["da"], ["cup"], rules[:5])), [[0], [1], [2], [3], [4], [5]])
        ring = [("da", at, "", (at + 1) % 5, False, ()) for at in range(5)]
        self.assertEqual(state_lots(Gate(5, ["da"], [], ring)), [[0, 1, 2, 3, 4]])

    def test_lots_that_ascend_by_their_least_states(self):
        rules = [("da", 0, "", 3, False, ()), ("da", 2, "", 3, False, ()), ("da", 1, "", 1, False, ("cup",))]
        self.assertEqual(state_lots(Gate(5, ["da"], ["cup"], rules)), [[0, 2], [1], [3, 4]])

    def test_other_gates(self):
        joined = 0
        for seed in range(200):
            gate = some_gate(seed)
            found = state_lots(gate)
            self.assertEqual(found, [list(lot) for lot in plain_lots(gate)])
            joined += len(found) < gate.states
        self.assertGreater(joined, 100)


class FoldedTest(unittest.TestCase):
    def test_numbered_by_the_least_states_of_the_lots(self):
        rules = [("da", 0, "", 5, False, ()), ("da", 5, "", 2, False, ("cup",)), ("da", 3, "", 4, False, ("cup",)),
                 ("da", 2, "?", 2, False, ()), ("da", 4, "?", 4, False, ()), ("da", 1, "", 1, False, ("key",))]
        gate = Gate(6, ["da"], ["cup", "key"], rules)
        self.assertEqual(state_lots(gate), [[0], [1], [2, 4], [3, 5]])
        self.assertEqual(folded(gate), Gate(3, ["da"], ["cup", "key"], [
            ("da", 0, "", 2, False, ()), ("da", 1, "?", 1, False, ()), ("da", 2, "", 1, False, ("cup",))]))

    def test_a_least_state_that_cannot_be_come_to(self):
        rules = [("da", 0, "", 3, False, ()), ("da", 3, "", 2, False, ("cup",)), ("da", 1, "?", 1, False, ()),
                 ("da", 2, "?", 1, False, ())]
        gate = Gate(4, ["da"], ["cup"], rules[:3] + [("da", 2, "?", 2, False, ())])
        self.assertEqual(state_lots(gate), [[0], [1, 2], [3]])
        self.assertEqual(folded(gate).rules(), [("da", 0, "", 2, False, ()), ("da", 1, "?", 1, False, ()),
                                                ("da", 2, "", 1, False, ("cup",))])
        self.assertEqual(folded(Gate(4, ["da"], ["cup"], rules)), folded(gate))

    def test_what_cannot_be_come_to_is_left_out(self):
        self.assertEqual(folded(shop()), shop())
        cut = shop().without_rule(("buy", 0, ""))
        self.assertEqual(folded(cut), Gate(1, ["ask", "buy"], ["gold"], []))
        self.assertEqual(folded(Gate(64, ["da"], [], [])), Gate(1, ["da"], [], []))

    def test_doors_and_closet_stay(self):
        for seed in range(100):
            gate = some_gate(seed)
            less = folded(gate)
            self.assertIs(type(less), Gate)
            self.assertEqual((less.doors(), less.closet()), (gate.doors(), gate.closet()))

    def test_state_0_stays_state_0(self):
        for seed in range(100):
            gate = some_gate(seed)
            self.assertEqual([(rule[0], rule[2], rule[4:]) for rule in gate.rules() if rule[1] == 0],
                             [(rule[0], rule[2], rule[4:]) for rule in folded(gate).rules() if rule[1] == 0])

    def test_other_gates(self):
        for seed in range(200):
            gate = some_gate(seed)
            less = folded(gate)
            self.assertEqual(less, plain_folded(gate))
            self.assertEqual(folded(less), less)
            self.assertEqual(state_lots(less), [[state] for state in range(less.states)])

    def test_unfolded_gates(self):
        for seed in range(60):
            gate = some_gate(4 * seed + 1)
            self.assertEqual(folded(unfolded(gate, seed)), folded(gate))

    def test_64_states(self):
        began = time.monotonic()
        self.assertEqual(folded(chain(64)), chain(64))
        self.assertEqual(len(state_lots(chain(64))), 64)
        self.assertEqual(folded(chain(64, ())), Gate(1, ["da"], ["cup"], [("da", 0, "", 0, False, ())]))
        chance = random.Random(7)
        doors = ["da", "db", "dc", "dd", "de", "df"]
        gate = random_gate(chance, 8, doors, ["ann", "cup", "da", "key"], True)
        for at in range(3):
            gate = unfolded(gate, at)
        self.assertEqual((gate.states, folded(gate).states), (64, 8))
        rules = [(door, at, kind, min(at + 1, 63), False, ()) for door in doors for at in range(63)
                 for kind in ["", "?", "ann", "cup", "da", "key"]]
        long = Gate(64, doors, ["ann", "cup", "da", "key"], rules)
        self.assertEqual(folded(long), long)
        self.assertLess(time.monotonic() - began, 20)

    def test_a_rule_that_keeps(self):
        rules = [("da", at, "?", 1 - at, True, ("+kept", "+given")) for at in range(2)]
        self.assertEqual(folded(Gate(2, ["da"], [], rules)).rules(), [("da", 0, "?", 0, True, ("+kept", "+given"))])
        rules[1] = ("da", 1, "?", 0, False, ("+kept", "+given"))
        self.assertEqual(folded(Gate(2, ["da"], [], rules)).rules(), rules)


class FoldedHouseTest(unittest.TestCase):
    def test_the_market(self):
        self.assertEqual(folded_house(market()), market())
        self.assertEqual(folded_house(unfolded_house(market(), 1)), market())
        self.assertEqual(folded_house(House(["ann"], [], [], [])), House(["ann"], [], [], []))

    def test_all_its_gates(self):
        for seed in range(60):
            house = unfolded_house(random_house(seed), seed)
            less = folded_house(house)
            self.assertIs(type(less), House)
            self.assertEqual(less.gates(), [folded(gate) for gate in house.gates()])
            self.assertEqual((less.guests(), less.things(), less.first()),
                             (house.guests(), house.things(), house.first()))
            self.assertEqual(folded_house(less), less)

    def test_what_guests_can_come_to_hold_stays(self):
        for seed in range(40):
            house = random_house(seed, 2, 2, 3) if seed % 2 else choice_house(seed)
            house = unfolded_house(house, seed)
            less = folded_house(house)
            for acting in groups(house)[-2:]:
                self.assertEqual(ever(less, acting), ever(house, acting))
                for wish in wishes(house, 2)[::31]:
                    self.assertIs(can(less, acting, wish), can(house, acting, wish))
                    if seed % 2 == 0 and can(house, acting, wish):
                        self.assertLessEqual(fewest(less, acting, wish), fewest(house, acting, wish))

    def test_views_see_the_same(self):
        for seed in range(60):
            house = random_house(seed, 2, 2, 4)
            for guest in house.guests():
                names = names_of(house, guest)
                self.assertIs(see_same((house, guest, names), (folded_house(house), guest, list(names))), True)

    def test_equal_houses_in_whatever_order(self):
        self.assertEqual(folded_house(market()), folded_house(market_in_other_order()))
        for seed in range(40):
            house = unfolded_house(random_house(seed), seed)
            self.assertEqual(folded_house(house), folded_house(shuffled(house, seed)))
            for gate, other in zip(house.gates(), shuffled(house, seed).gates()):
                self.assertEqual(state_lots(gate), state_lots(other))

    def test_what_is_returned_may_be_changed(self):
        gate = chain(6, ())
        state_lots(gate)[0].clear()
        folded(gate).rules().clear()
        self.assertEqual(state_lots(gate), [[0, 1, 2, 3, 4, 5]])
        house = House(["ann"], ["cup"], [gate], [])
        folded_house(house)
        self.assertEqual((house.gates(), gate), ([chain(6, ())], chain(6, ())))


if __name__ == "__main__":
    unittest.main()
