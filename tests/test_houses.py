import unittest

from letinside.errors import NoDoor, NoRule, Strange, Twice, Wrong
from letinside.gates import Gate
from letinside.houses import House
from tests.samples import junk, market, market_in_other_order, post, shop


def parts(house):
    return (house.guests(), house.things(), house.gates(), house.first())


def lone(door, closet=()):
    return Gate(1, [door], closet, [])


class MadeTest(unittest.TestCase):
    def test_told_back_ascending(self):
        for house in [market(), market_in_other_order()]:
            self.assertEqual(house.guests(), ["ann", "bob"])
            self.assertEqual(house.things(), ["cup"])
            self.assertEqual(house.doors(), ["ask", "buy", "get", "put"])
            self.assertEqual(house.objects(), ["ann", "ask", "bob", "buy", "cup", "get", "put"])
            self.assertEqual(house.first(), [("ann", "buy"), ("ann", "put"), ("bob", "get")])
            self.assertEqual(house.gates(), [shop().renamed({"gold": "cup"}), post()])

    def test_gates_stay_in_their_order(self):
        house = House([], [], (lone("z"), lone("b"), lone("c")), [])
        self.assertEqual(house.gates(), [lone("z"), lone("b"), lone("c")])
        self.assertEqual([house.gate_of(door) for door in "bcz"], [1, 2, 0])
        self.assertEqual(house.doors(), ["b", "c", "z"])

    def test_an_empty_house(self):
        house = House([], (), [], ())
        self.assertEqual(parts(house), ([], [], [], []))
        self.assertEqual((house.doors(), house.objects()), ([], []))

    def test_things_ascend(self):
        self.assertEqual(House([], ["key", "cup"], [], []).things(), ["cup", "key"])

    def test_first_pairs_are_different_and_without_a_guests_own(self):
        first = [("bob", "cup"), ("ann", "bob"), ("bob", "bob"), ("ann", "ann"), ("bob", "cup"), ("ann", "door")]
        house = House(["ann", "bob"], ["cup"], [lone("door")], first)
        self.assertEqual(house.first(), [("ann", "bob"), ("ann", "door"), ("bob", "cup")])

    def test_arguments_are_copied(self):
        guests, things, gates, first = ["bob", "ann"], ["cup"], [lone("door")], [("bob", "cup")]
        house = House(guests, things, gates, first)
        self.assertEqual((guests, things, gates, first), (["bob", "ann"], ["cup"], [lone("door")], [("bob", "cup")]))
        for row in [guests, things, gates, first]:
            row.clear()
        self.assertEqual(parts(house), (["ann", "bob"], ["cup"], [lone("door")], [("bob", "cup")]))

    def test_what_is_returned_may_be_changed(self):
        house = market()
        for row in [house.guests(), house.things(), house.doors(), house.objects(), house.gates(), house.first()]:
            row.clear()
        self.assertEqual(parts(house), parts(market()))
        self.assertEqual(house.doors(), market().doors())
        self.assertEqual(house.objects(), market().objects())


class RefusedTest(unittest.TestCase):
    def wrong(self, place, *given):
        with self.assertRaises(Wrong) as caught:
            House(*given)
        self.assertEqual(caught.exception.place, place, repr(given))

    def twice(self, name, *given):
        with self.assertRaises(Twice) as caught:
            House(*given)
        self.assertEqual(caught.exception.name, name)

    def strange(self, name, *given):
        with self.assertRaises(Strange) as caught:
            House(*given)
        self.assertEqual(caught.exception.name, name)

    def test_wrong_names(self):
        for names in [None, "ann", {"ann": 1}, ["ann", "ann"], ["Ann"], [""], [1], [["ann"]], True, shop()]:
            self.wrong(0, names, [], [], [])
            self.wrong(1, [], names, [], [])

    def test_wrong_gates(self):
        for gates in [None, shop(), {}, "", [None], [shop(), "shop"], (1,), [[shop()]], market(), [market()]]:
            self.wrong(2, [], [], gates, [])

    def test_wrong_first(self):
        for first in [None, {}, "", ("ann", "cup"), [["ann", "cup"]], [("ann",)], [("ann", "cup", "cup")],
                      [("ann", "")], [("", "cup")], [("ann", 1)], [(True, "cup")], [("ann", "CUP")], ["ab"],
                      {("ann", "cup"): 1}, [("ann", "cup"), None], 1, market()]:
            self.wrong(3, ["ann"], ["cup"], [], first)

    def test_the_first_wrong_one_is_told_ahead_of_all_others(self):
        self.wrong(0, None, None, None, None)
        self.wrong(1, ["ann"], None, None, None)
        self.wrong(2, ["ann"], ["ann"], None, None)
        self.wrong(3, ["ann"], ["ann"], [lone("a"), lone("a")], None)

    def test_any_values(self):
        fine = [["ann", "bob"], ["cup"], [shop().renamed({"gold": "cup"})], [("ann", "cup")]]
        for place in range(4):
            for thing in junk():
                given = fine[:place] + [thing] + fine[place + 1:]
                try:
                    House(*given)
                except Wrong as error:
                    self.assertEqual(error.place, place)
                except (Strange, Twice):
                    pass

    def test_twice(self):
        self.twice("ann", ["bob", "ann"], ["ann"], [], [])
        self.twice("ann", ["ann"], [], [lone("ann")], [])
        self.twice("cup", [], ["cup"], [lone("cup")], [])
        self.twice("door", [], [], [lone("door"), lone("door")], [])
        self.twice("door", [], [], [lone("b"), Gate(1, ["a", "door"], [], []), Gate(1, ["c", "door"], [], [])], [])

    def test_the_least_twice_ahead_of_strange(self):
        self.twice("b", ["a", "c", "d"], ["d", "b"], [lone("c"), lone("b", ["aa"])], [("zoe", "zoe")])

    def test_strange_in_a_closet_or_as_a_first_name(self):
        self.strange("gold", ["ann"], ["cup"], [shop()], [])
        self.strange("key", ["ann"], ["cup"], [lone("door", ["cup"])], [("ann", "key")])
        House(["ann"], ["cup"], [lone("door", ["ann", "cup", "door", "knock"]), lone("knock")], [("ann", "knock")])

    def test_strange_as_a_guest(self):
        self.strange("cup", ["ann"], ["cup"], [], [("cup", "ann")])
        self.strange("door", ["ann"], ["cup"], [lone("door")], [("door", "cup")])
        self.strange("cup", ["ann"], ["cup"], [], [("cup", "cup")])
        self.strange("zoe", ["ann"], ["cup"], [], [("zoe", "zoe")])

    def test_the_least_strange(self):
        gates = [lone("door", ["m", "cup"]), lone("gate", ["l"])]
        self.strange("k", ["ann"], ["cup"], gates, [("n", "cup"), ("ann", "k")])
        self.strange("k", ["ann"], ["cup"], gates, [("k", "cup"), ("ann", "n")])
        self.strange("l", ["ann"], ["cup"], gates, [("p", "n")])
        self.strange("cup", ["ann"], ["cup"], gates, [("cup", "d")])


class AskedTest(unittest.TestCase):
    def test_gate_of(self):
        house = market()
        self.assertEqual([house.gate_of(door) for door in ["buy", "ask", "put", "get"]], [0, 0, 1, 1])

    def test_gate_of_any_value(self):
        house = market()
        for thing in junk() + ["cup", "ann", "zoe", "Buy", ["buy"], ("buy",)]:
            with self.assertRaises(NoDoor) as caught:
                house.gate_of(thing)
            self.assertIs(caught.exception.door, thing)


class ChangedTest(unittest.TestCase):
    def test_with_first(self):
        house = market()
        other = house.with_first((("bob", "cup"), ("ann", "ann"), ("bob", "cup")))
        self.assertEqual(parts(other), (house.guests(), house.things(), house.gates(), [("bob", "cup")]))
        self.assertEqual(house.with_first([]).first(), [])
        self.assertEqual(parts(house), parts(market()))

    def test_with_first_refused(self):
        house = market()
        for pairs in junk() + [("ann", "cup"), [["ann", "cup"]], [("ann", "")], {("ann", "cup"): 1}]:
            if pairs not in ([], (), [("ann", "bob")], (("ann", "bob"),), (("ann", "bob"), ("ann", "cup"))):
                with self.assertRaises(Wrong) as caught:
                    house.with_first(pairs)
                self.assertEqual(caught.exception.place, 0)
        for name, pairs in [("zoe", [("ann", "zoe")]), ("cup", [("cup", "ann"), ("zoe", "cup")])]:
            with self.assertRaises(Strange) as caught:
                house.with_first(pairs)
            self.assertEqual(caught.exception.name, name)
        self.assertEqual(parts(house), parts(market()))

    def test_with_gate(self):
        house = market()
        gate = Gate(3, ["get", "put", "sell"], ["cup", "sell"], [])
        other = house.with_gate(1, gate)
        self.assertEqual(parts(other), (house.guests(), house.things(), [house.gates()[0], gate], house.first()))
        self.assertEqual([other.gate_of("sell"), other.gate_of("buy")], [1, 0])
        self.assertEqual(house.with_gate(0, house.gates()[0]), house)
        self.assertEqual(house.with_first([]).with_gate(0, lone("door")).gates(), [lone("door"), post()])
        self.assertEqual(parts(house), parts(market()))

    def test_with_gate_refused(self):
        house = market()
        for name, gate in [("get", Gate(1, ["buy", "put", "get"], [], [])), ("ann", Gate(1, ["buy", "ann"], [], []))]:
            with self.assertRaises(Twice) as caught:
                house.with_gate(0, gate)
            self.assertEqual(caught.exception.name, name)
        for name, gate in [("buy", lone("sell")), ("aaa", lone("buy", ["zzz", "aaa"]))]:
            with self.assertRaises(Strange) as caught:
                house.with_gate(0, gate)
            self.assertEqual(caught.exception.name, name)
        self.assertEqual(parts(house), parts(market()))

    def test_without_rule(self):
        house = market()
        other = house.without_rule(("get", 0, ""))
        self.assertEqual(other.gates(), [house.gates()[0], post().without_rule(("get", 0, ""))])
        self.assertEqual((other.guests(), other.things(), other.first()),
                         (house.guests(), house.things(), house.first()))
        other = house.without_rule(("ask", 1, "?"))
        self.assertEqual(other.gates(), [house.gates()[0].without_rule(("ask", 1, "?")), post()])
        self.assertEqual(parts(house), parts(market()))

    def test_without_rule_of_any_value(self):
        house = market()
        for key in junk() + [("get", False, ""), ("get", 1, ""), ["get", 0, ""], ("zoe", 0, ""), ("buy", 0, "", 1)]:
            with self.assertRaises(NoRule) as caught:
                house.without_rule(key)
            self.assertIs(caught.exception.key, key)

    def test_renamed(self):
        names = {"ann": "bob", "bob": "ann", "cup": "buy", "buy": "cup", "get": "take", "zoe": "moe"}
        house = market().renamed(names)
        self.assertEqual(house.guests(), ["ann", "bob"])
        self.assertEqual(house.things(), ["buy"])
        self.assertEqual(house.doors(), ["ask", "cup", "put", "take"])
        self.assertEqual(house.first(), [("ann", "take"), ("bob", "cup"), ("bob", "put")])
        self.assertEqual(house.gates()[0].rules(), [("ask", 1, "?", 1, False, ("+given", "buy")),
                                                    ("cup", 0, "", 1, False, ("buy",))])
        self.assertEqual(house.gates(), [gate.renamed(names) for gate in market().gates()])
        back = {"ann": "bob", "bob": "ann", "cup": "buy", "buy": "cup", "take": "get"}
        self.assertEqual(house.renamed(back), market())
        self.assertEqual(market().renamed({}), market())


class EqualTest(unittest.TestCase):
    def test_equal_in_whatever_order(self):
        self.assertIs(market() == market_in_other_order(), True)
        self.assertIs(market() != market_in_other_order(), False)

    def test_unlike(self):
        house = market()
        gates = house.gates()
        others = [House(["ann", "bob", "cat"], ["cup"], gates, house.first()),
                  House(["ann", "bob"], ["cup", "key"], gates, house.first()),
                  House(["ann", "bob"], ["cup"], gates[::-1], house.first()),
                  House(["ann", "bob"], ["cup"], gates + [lone("door")], house.first()),
                  House(["ann", "bob"], ["cup"], gates, house.first()[:2]),
                  house.without_rule(("get", 0, ""))]
        for other in others:
            self.assertIs(house == other, False)
            self.assertIs(house != other, True)

    def test_equal_to_nothing_else(self):
        house = market()
        for thing in junk() + [parts(house), list(parts(house)), shop()]:
            if not isinstance(thing, House):
                self.assertIs(house == thing, False)
                self.assertIs(thing == house, False)


if __name__ == "__main__":
    unittest.main()
