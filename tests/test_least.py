import itertools
import random
import time
import unittest

from letinside.gates import Gate
from letinside.houses import House
from letinside.least import actor_lots, barring, bringing
from letinside.reach import can
from tests.samples import choice_house, market, market_in_other_order, plain_has, plain_nodes, random_house, shuffled
from tests.test_growing import groups
from tests.test_nodes import many_nodes
from tests.test_reach import wishes

BOTH = ("ann", "bob")
ALL = ("ann", "bob", "cat")
CUP = (("bob", "cup"),)


def one_has(stands, wish):
    """Whether one of the stands has a wish."""
    return any(plain_has(stand, wish) for stand in stands)


def parts(row):
    """All parts of a row, as tuples."""
    return [lot for many in range(len(row) + 1) for lot in itertools.combinations(row, many)]


def plain_least(row, does):
    """The least lots of a row that do something, each lot asked for."""
    doing = [set(lot) for lot in parts(row) if does(lot)]
    return sorted(sorted(lot) for lot in doing if not any(less < lot for less in doing))


def check_form(test, rows):
    """Check that these are ascending lists of different things in an ascending list of different ones."""
    test.assertIs(type(rows), list)
    for row in rows:
        test.assertIs(type(row), list)
        test.assertEqual(row, sorted(set(row)))
    test.assertEqual(rows, sorted(rows))
    test.assertEqual(len(rows), len({tuple(row) for row in rows}))


def chain(guests):
    """A house in which a cup goes from the first guest to the last one by all of them."""
    return House(guests, ["cup"], [], [(guests[0], "cup")] + list(zip(guests, guests[1:])))


class ActorLotsTest(unittest.TestCase):
    def test_the_market(self):
        self.assertEqual(actor_lots(market(), CUP), [["ann", "bob"]])
        self.assertEqual(actor_lots(market(), (("ann", "cup"),)), [["ann"]])
        self.assertEqual(actor_lots(market(), (("ann", "buy"),)), [[]])
        self.assertEqual(actor_lots(market(), (("bob", "bob"),)), [[]])
        self.assertEqual(actor_lots(market(), (("ann", "ask"),)), [])

    def test_lots_of_one_two_and_three(self):
        for many in range(1, 5):
            guests = ["ann", "bob", "cat", "dan"][:many]
            house = chain(guests)
            self.assertEqual(actor_lots(house, ((guests[-1], "cup"),)), [guests[:-1]])

    def test_several_lots(self):
        first = [("ann", "cat"), ("bob", "cat"), ("bob", "cup"), ("ann", "cup"), ("dan", "cup"), ("ann", "dan")]
        house = House(["ann", "bob", "cat", "dan"], ["cup"], [], first + [("dan", "bob")])
        self.assertEqual(actor_lots(house, (("cat", "cup"),)), [["ann"], ["bob"]])
        self.assertEqual(actor_lots(house, (("cat", "cup"), ("cat", "dan"))), [["ann"], ["bob", "dan"]])
        self.assertEqual(actor_lots(house, (("bob", "dan"),)), [["ann", "bob", "cat"], ["dan"]])
        self.assertEqual(actor_lots(house, (("ann", "bob"),)), [["ann", "bob", "cat"], ["ann", "dan"]])

    def test_other_houses(self):
        lengths = set()
        for seed in range(80):
            house = random_house(seed, 3, 2, 3) if seed % 2 else choice_house(seed)
            found = {lot: list(plain_nodes(house, lot)) for lot in groups(house)}
            for wish in wishes(house, 2)[::11]:
                expected = plain_least(house.guests(), lambda lot: one_has(found[lot], wish))
                told = actor_lots(house, wish)
                self.assertEqual(told, expected)
                check_form(self, told)
                lengths |= {len(lot) for lot in told}
        self.assertLessEqual({0, 1, 2, 3}, lengths)


class BringingTest(unittest.TestCase):
    def test_the_market(self):
        self.assertEqual(bringing(market(), BOTH, CUP), [[("ann", "buy"), ("ann", "put"), ("bob", "get")]])
        self.assertEqual(barring(market(), BOTH, CUP), [[("ann", "buy")], [("ann", "put")], [("bob", "get")]])
        self.assertEqual(bringing(market(), ("ann",), (("ann", "cup"),)), [[("ann", "buy")]])
        self.assertEqual(barring(market(), ("ann",), (("ann", "cup"),)), [[("ann", "buy")]])

    def test_a_wish_that_stands_at_first(self):
        for acting in [(), ("ann",), BOTH]:
            self.assertEqual(bringing(market(), acting, (("ann", "ann"), ("bob", "bob"))), [[]])
            self.assertEqual(barring(market(), acting, (("ann", "ann"), ("bob", "bob"))), [])
        self.assertEqual(bringing(market(), (), (("ann", "buy"),)), [[("ann", "buy")]])
        self.assertEqual(barring(market(), (), (("ann", "buy"),)), [[("ann", "buy")]])

    def test_a_wish_that_cannot_come(self):
        for acting, wish in [(("ann",), CUP), (BOTH, (("ann", "ask"),)), ((), (("ann", "cup"),))]:
            self.assertEqual(bringing(market(), acting, wish), [])
            self.assertEqual(barring(market(), acting, wish), [[]])
        self.assertEqual(actor_lots(market(), (("bob", "ask"),)), [])

    def test_that_a_guest_holds_itself_is_never_withheld(self):
        house = House(["ann", "bob"], ["cup"], [], [("ann", "ann"), ("bob", "bob"), ("ann", "bob"), ("bob", "ann")])
        self.assertEqual(bringing(house, (), (("ann", "ann"),)), [[]])
        self.assertEqual(barring(house, BOTH, (("ann", "ann"),)), [])
        self.assertEqual(bringing(house, BOTH, (("bob", "ann"),)), [[("ann", "bob")], [("bob", "ann")]])
        self.assertEqual(barring(house, BOTH, (("bob", "ann"),)), [[("ann", "bob"), ("bob", "ann")]])

    def test_lots_of_one_two_and_three(self):
        house = chain(["ann", "bob", "cat"])
        acting = ("ann", "bob")
        self.assertEqual(bringing(house, acting, (("ann", "cup"),)), [[("ann", "cup")]])
        self.assertEqual(bringing(house, acting, (("bob", "cup"),)), [[("ann", "bob"), ("ann", "cup")]])
        self.assertEqual(bringing(house, acting, (("cat", "cup"),)),
                         [[("ann", "bob"), ("ann", "cup"), ("bob", "cat")]])
        both = House(["ann", "bob"], ["cup"], [], [("ann", "cup"), ("bob", "cup"), ("ann", "bob"), ("bob", "ann")])
        self.assertEqual(bringing(both, BOTH, (("ann", "cup"), ("bob", "cup"))), [
            [("ann", "bob"), ("ann", "cup")], [("ann", "bob"), ("bob", "cup")],
            [("ann", "cup"), ("bob", "ann")], [("ann", "cup"), ("bob", "cup")], [("bob", "ann"), ("bob", "cup")]])

    def test_a_first_pair_told_twice(self):
        house = House(["ann"], ["cup"], [], [("ann", "cup"), ("ann", "cup")])
        self.assertEqual(barring(house, ("ann",), (("ann", "cup"),)), [[("ann", "cup")]])

    def test_other_houses(self):
        lengths = [set(), set()]
        for seed in range(60):
            house = random_house(seed, 3, 2, 3) if seed % 2 else choice_house(seed)
            first = house.first()
            acting = groups(house)[-1 - seed % 3 % len(groups(house))]
            if len(first) > 5:
                continue
            found = {lot: list(plain_nodes(house.with_first(lot), acting)) for lot in parts(first)}
            for wish in wishes(house, 2)[seed % 5::11]:
                some = plain_least(first, lambda lot: one_has(found[lot], wish))
                rest = plain_least(first, lambda lot: not one_has(found[tuple(
                    pair for pair in first if pair not in lot)], wish))
                self.assertEqual(bringing(house, acting, wish), some)
                self.assertEqual(barring(house, acting, wish), rest)
                for lots, rows in zip(lengths, [some, rest]):
                    check_form(self, rows)
                    lots |= {len(lot) for lot in rows}
        for lots in lengths:
            self.assertLessEqual({0, 1, 2}, lots)

    def test_each_lot_that_brings_meets_each_that_bars(self):
        met = 0
        for seed in range(60):
            house = random_house(seed, 3, 3, 5) if seed % 2 else choice_house(seed)
            acting = tuple(house.guests()[:3])
            for wish in wishes(house, 2)[::29]:
                for lot in bringing(house, acting, wish):
                    for other in barring(house, acting, wish):
                        self.assertTrue(set(lot) & set(other))
                        met += 1
        self.assertGreater(met, 50)

    def test_eight_first_pairs(self):
        began = time.monotonic()
        first = [("ann", "tick"), ("ann", "put"), ("ann", "pen"), ("bob", "get"), ("bob", "flip"), ("cat", "get"),
                 ("cat", "ann"), ("bob", "cat")]
        house = many_nodes().with_first(first)
        self.assertEqual(len(house.first()), 8)
        for wish in [(("cat", "pen"),), (("cat", "key"),), (("bob", "cup"), ("cat", "pen")), (("dan", "pen"),)]:
            some, rest = bringing(house, ALL, wish), barring(house, ALL, wish)
            check_form(self, some)
            for lot in some:
                self.assertIs(can(house.with_first(lot), ALL, wish), True)
                for pair in lot:
                    less = [other for other in lot if other != pair]
                    self.assertIs(can(house.with_first(less), ALL, wish), False)
            for lot in rest:
                self.assertTrue(all(set(lot) & set(other) for other in some))
            chance = random.Random(0)
            for _ in range(40):
                lot = chance.sample(first, chance.randint(0, 8))
                come = can(house.with_first(lot), ALL, wish)
                self.assertIs(any(set(less) <= set(lot) for less in some), come)
                self.assertIs(any(not set(less) & set(lot) for less in rest), not come)
        self.assertLess(time.monotonic() - began, 30)

    def test_all_eight_are_needed(self):
        rules = [("dd", 0, "pen", 1, False, ()), ("dc", 1, "key", 1, False, ("cup",))]
        gates = [Gate(4, ["da", "db"], [], []), Gate(3, ["dc", "dd"], ["cup", "key", "pen"], rules)]
        first = [("ann", "bob"), ("ann", "cat"), ("ann", "da"), ("ann", "dd"), ("ann", "key"), ("bob", "dc"),
                 ("cat", "db"), ("cat", "pen")]
        house = House(["ann", "bob", "cat"], ["cup", "key", "pen"], gates, first)
        wish = (("bob", "cup"), ("bob", "db"), ("cat", "da"))
        self.assertEqual(bringing(house, ALL, wish), [first])
        self.assertEqual(barring(house, ALL, wish), [[pair] for pair in first])
        self.assertEqual(bringing(house, ALL, wish[:2]), [[pair for pair in first if pair != ("ann", "da")]])
        self.assertEqual(actor_lots(house, wish), [["ann", "bob", "cat"]])


class AllTest(unittest.TestCase):
    def test_more_bars_nothing(self):
        for seed in range(40):
            house = random_house(seed, 3, 2, 3)
            for wish in wishes(house, 1)[::4]:
                lots = actor_lots(house, wish)
                for acting in groups(house):
                    self.assertIs(any(set(lot) <= set(acting) for lot in lots), can(house, acting, wish))

    def test_equal_houses_in_whatever_order(self):
        other = market_in_other_order()
        self.assertEqual(bringing(market(), BOTH, CUP), bringing(other, BOTH, CUP))
        self.assertEqual(barring(market(), BOTH, CUP), barring(other, BOTH, CUP))
        for seed in range(20):
            house, other = choice_house(seed), shuffled(choice_house(seed), seed)
            acting = tuple(house.guests())
            for wish in wishes(house, 1)[::4]:
                self.assertEqual(actor_lots(house, wish), actor_lots(other, wish))
                self.assertEqual(bringing(house, acting, wish), bringing(other, acting, wish))
                self.assertEqual(barring(house, acting, wish), barring(other, acting, wish))

    def test_what_is_returned_may_be_changed(self):
        house = market()
        told = [actor_lots(house, CUP), bringing(house, BOTH, CUP), barring(house, BOTH, CUP)]
        for rows in [actor_lots(house, CUP), bringing(house, BOTH, CUP), barring(house, BOTH, CUP)]:
            rows[0].clear()
            rows.clear()
        bringing(house, (), CUP)
        self.assertEqual([actor_lots(house, CUP), bringing(house, BOTH, CUP), barring(house, BOTH, CUP)], told)
        self.assertEqual(house, market_in_other_order())


if __name__ == "__main__":
    unittest.main()
