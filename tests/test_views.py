import itertools
import time
import unittest

from letinside.errors import NoCall, Unlike
from letinside.gates import Gate
from letinside.houses import House
from letinside.views import is_parting, is_view, parting, see_same, shown
from tests.samples import junk, market, market_in_other_order, otherwise, random_house, shuffled
from tests.viewing import begun, beside, box_view, chest_view, names_of, other_names, plain_is_parting, plain_step
from tests.viewing import plain_walk, random_view, unfolded_house

NO_CALLS = [None, True, 0, "", (), (0,), (0, 0, 0), [0, -1], (True, -1), (False, -1), (0, True), (0, False), (-1, -1),
            (-1, 0), (0, -2), (0, None), (0, ""), ("pick", ""), (0, [0]), ((0, -1),), {0: -1}, (10 ** 39, -1),
            (0, 10 ** 39), (-10 ** 39, 0)]


def post_view():
    """A view of a gate that keeps what it is given and tells it, with what is given, several times."""
    post = Gate(1, ["put", "get"], ["cup"], [("put", 0, "?", 0, True, ("+given", "+kept", "+given")),
                                            ("get", 0, "", 0, False, ("cup", "+kept", "cup"))])
    return (House(["ann", "bob"], ["cup", "key"], [post], [("ann", "put"), ("ann", "get"), ("ann", "key")]), "ann",
            ["key", "put", "get"])


def wide_view():
    """A view of a house at the bounds, which has many pairs."""
    names = [["bob", "cat", "dan", "dd"], ["key", "pen", "cup", "de"]]
    gates = []
    for door, far, closet, states in [("da", "dd", names[0], 4), ("db", "de", names[1], 3)]:
        rules = []
        for at in range(states):
            rules += [(door, at, "", at, False, (closet[0],)), (door, at, "?", (at + 1) % states, False, (closet[1],)),
                      (door, at, closet[0], at, False, (closet[2],)), (door, at, closet[1], at, False, (closet[3],))]
        gates.append(Gate(states, [door, far], closet, rules))
    gates.append(Gate(1, ["dc", "df"], [], [("dc", 0, "?", 0, True, ("+kept",)), ("df", 0, "", 0, False, ("+kept",))]))
    first = [("ann", "da"), ("ann", "db"), ("ann", "dc")]
    house = House(["ann", "bob", "cat", "dan"], ["cup", "key", "pen"], gates, first)
    return (house, "ann", ["da", "db", "dc"])


class IsViewTest(unittest.TestCase):
    def test_views(self):
        self.assertIs(is_view(chest_view()), True)
        self.assertIs(is_view(box_view()), True)
        self.assertIs(is_view((market(), "ann", ["buy", "put"])), True)
        self.assertIs(is_view((market(), "ann", ["put", "buy"])), True)
        self.assertIs(is_view((market(), "bob", ["get"])), True)
        self.assertIs(is_view((House(["ann"], [], [], []), "ann", [])), True)

    def test_no_views(self):
        house = market()
        for thing in [(house, "ann", ("buy", "put")), (house, "ann", ["buy"]), (house, "ann", []),
                      (house, "ann", ["buy", "put", "put"]), (house, "ann", ["ann", "buy", "put"]),
                      (house, "ann", ["buy", "put", "get"]), (house, "ann", ["buy", "get"]), (house, "bob", ["bob"]),
                      (house, "bob", ["buy", "put"]), (house, "cup", []), (house, "buy", []), (house, "zed", []),
                      (house, "", []), [house, "ann", ["buy", "put"]], (house, "ann"), (house, "bob", ["get"], None),
                      ("ann", house, ["buy", "put"]), (None, "ann", ["buy", "put"]), (house, ["ann"], ["buy", "put"]),
                      (house, "ann", {"buy": 1, "put": 2}), (house, "ann", "buyput"), (house, "ann", [["buy"], "put"]),
                      (house, "ann", ["buy", None]), (house, "ann", [True, "put"]), (house.gates(), "ann", ["buy"])]:
            self.assertIs(is_view(thing), False, repr(thing))

    def test_any_value(self):
        house = market()
        for thing in junk():
            self.assertIs(is_view(thing), False)
            for value in [(thing, "ann", ["buy", "put"]), (house, thing, ["buy", "put"]), (house, "ann", thing),
                          (house, "ann", ["buy", thing]), (house, "ann", ["buy", "put", thing]),
                          (house, "bob", [thing])]:
                self.assertIs(is_view(value), value == (house, "ann", ["buy", "put"]))


class ShownTest(unittest.TestCase):
    def test_one_behind_the_other(self):
        self.assertEqual(shown(chest_view(), []), [])
        self.assertEqual(shown(chest_view(), [(1, -1), (1, -1)]), [[2], []])
        self.assertEqual(shown(chest_view(), [(1, 0)]), [[2]])
        self.assertEqual(shown(chest_view(), [(1, 1), (1, 2)]), [[2], []])

    def test_what_is_no_door(self):
        self.assertEqual(shown(chest_view(), [(0, -1), (0, 1), (0, 0), (1, -1), (2, -1), (2, 2)]),
                         [[], [], [], [2], [], []])

    def test_names_told_several_times(self):
        self.assertEqual(shown(post_view(), [(3, -1), (3, -1)]), [[4, 4], [4, 4]])
        self.assertEqual(shown(post_view(), [(2, 1), (3, -1)]), [[1, 1], [4, 1, 4]])
        self.assertEqual(shown(post_view(), [(2, 1), (2, 0), (2, 0), (3, -1), (2, 4), (3, -1)]),
                         [[1, 1], [0, 1, 0], [0, 0, 0], [4, 0, 4], [], [4, 0, 4]])

    def test_new_names_in_the_order_told(self):
        rules = [("da", 0, "", 1, False, ("pen", "ann", "cup", "pen", "key")), ("da", 1, "cup", 0, False, ("key",))]
        gate = Gate(2, ["da"], ["pen", "key", "cup", "ann"], rules)
        view = (House(["ann"], ["cup", "key", "pen"], [gate], [("ann", "da")]), "ann", ["da"])
        self.assertEqual(shown(view, [(1, -1), (1, 3), (1, 3), (1, -1)]), [[2, 0, 3, 2, 4], [4], [], [2, 0, 3, 2, 4]])

    def test_a_door_that_is_told(self):
        gate = Gate(1, ["da", "db"], ["db", "cup"],
                    [("da", 0, "", 0, False, ("db",)), ("db", 0, "?", 0, False, ("cup",))])
        view = (House(["ann"], ["cup"], [gate], [("ann", "da")]), "ann", ["da"])
        self.assertEqual(shown(view, [(1, -1), (2, 1), (2, 2), (2, 3)]), [[2], [3], [], []])

    def test_other_guests_do_nothing(self):
        self.assertEqual(shown((market(), "bob", ["get"]), [(1, -1)]), [[]])
        self.assertEqual(shown((market(), "ann", ["put", "buy"]), [(2, -1), (1, 3), (1, 3)]), [[3], [], [3]])
        self.assertEqual(shown((market(), "ann", ["buy", "put"]), [(2, -1), (1, -1)]), [[], [3]])

    def test_other_views(self):
        told = 0
        for seed in range(60):
            view = random_view(seed)
            state, calls, expected = begun(view), [], []
            for at in range(30):
                call = (at * 7 % len(state[1]), at * 5 % (len(state[1]) + 1) - 1)
                state, shows = plain_step(view[0], state, call)
                calls.append(call)
                expected.append(shows)
                told += len(shows)
            self.assertEqual(shown(view, calls), expected)
            self.assertEqual(shown(view, calls[:9]), expected[:9])
        self.assertGreater(told, 100)

    def test_no_call(self):
        for thing in NO_CALLS + [(2, -1), (0, 2), (1, 2)]:
            for calls, index in [([thing], 0), ([thing, (1, -1)], 0), ([(0, -1), (0, 0), thing, None], 2)]:
                self.check_no_call(calls, index)
        for thing in NO_CALLS + [(3, -1), (0, 3), (1, 3)]:
            self.check_no_call([(1, 0), thing, None], 1)

    def check_no_call(self, calls, index):
        """Check that just what stands at this index is the first that is no call."""
        with self.assertRaises(NoCall) as caught:
            shown(chest_view(), calls)
        self.assertEqual((caught.exception.index, type(caught.exception.index)), (index, int))
        self.assertEqual(len(shown(chest_view(), calls[:index])), index)

    def test_the_names_known_then(self):
        with self.assertRaises(NoCall) as caught:
            shown(chest_view(), [(0, 1), (0, 2), (1, -1)])
        self.assertEqual(caught.exception.index, 1)
        self.assertEqual(shown(chest_view(), [(0, 1), (1, -1), (0, 2)]), [[], [2], []])
        with self.assertRaises(NoCall) as caught:
            shown(chest_view(), [(1, -1), (0, 3)])
        self.assertEqual(caught.exception.index, 1)

    def test_any_value(self):
        for thing in junk():
            with self.assertRaises(NoCall) as caught:
                shown(chest_view(), [(1, -1), thing])
            self.assertEqual(caught.exception.index, 1)


class SeeSameTest(unittest.TestCase):
    def check(self, one, other, many):
        """Check all that is told of two views that so few calls part, or none."""
        self.assertIs(see_same(one, other), many is None)
        self.assertIs(see_same(other, one), many is None)
        calls = parting(one, other)
        if many is None:
            self.assertIsNone(calls)
            return
        self.assertIs(type(calls), list)
        self.assertEqual(len(calls), many)
        self.assertTrue(plain_is_parting(one, other, calls))
        self.assertIs(is_parting(one, other, calls), True)
        shows, shows_too = shown(one, calls), shown(other, calls)
        self.assertEqual(shows[:-1], shows_too[:-1])
        self.assertNotEqual(shows[-1], shows_too[-1])

    def test_of_the_document(self):
        self.check(chest_view(), box_view(), None)
        self.check(chest_view(), chest_view(), None)

    def test_a_house_beside_itself_and_one_with_other_names(self):
        for seed in range(30):
            view = random_view(seed)
            for other in [view, other_names(view), (unfolded_house(view[0], seed), view[1], view[2])]:
                self.check(view, other, None)

    def test_names_in_another_order(self):
        view = (market(), "ann", ["buy", "put"])
        self.check(view, view, None)
        self.check(view, (market(), "ann", ["put", "buy"]), 1)

    def test_a_door_beside_what_is_no_door(self):
        house = House(["ann"], ["cup", "key"], [Gate(1, ["da"], [], [("da", 0, "?", 0, False, ("+given",))])],
                      [("ann", "da"), ("ann", "cup")])
        self.check((house, "ann", ["da", "cup"]), (house, "ann", ["cup", "da"]), 1)
        silent = House(["ann"], ["cup", "key"], [Gate(1, ["da"], [], [])], [("ann", "da"), ("ann", "cup")])
        self.check((silent, "ann", ["da", "cup"]), (silent, "ann", ["cup", "da"]), None)
        late = House(["ann"], ["cup", "key"], [Gate(2, ["da"], [], [("da", 0, "?", 1, False, ()),
                                                                    ("da", 1, "", 1, False, ("+kept",)),
                                                                    ("da", 1, "?", 1, True, ())])],
                     [("ann", "da"), ("ann", "cup")])
        self.check((late, "ann", ["da", "cup"]), (silent, "ann", ["da", "cup"]), 3)
        self.check((late, "ann", ["da", "cup"]), (silent, "ann", ["cup", "da"]), 3)

    def test_as_few_calls_as_possible(self):
        rules = [("da", 0, "", 1, False, ()), ("da", 1, "", 2, False, ()), ("da", 2, "", 0, False, ("cup",)),
                 ("da", 1, "?", 3, False, ()), ("da", 3, "", 3, False, ())]
        views = [(House(["ann"], ["cup", "key"], [Gate(4, ["da"], ["cup"], rules + [rule])], [("ann", "da")]), "ann",
                  ["da"]) for rule in [("da", 3, "?", 0, False, ("cup",)), ("da", 2, "?", 0, False, ("cup",)),
                                       ("da", 3, "cup", 0, False, ("cup",))]]
        self.check(views[0], views[1], 3)
        self.check(views[0], views[2], 3)
        self.check(views[1], views[2], 3)
        far = Gate(4, ["da"], ["cup"], rules)
        self.check(views[2], (views[2][0].with_gate(0, far), "ann", ["da"]), 6)

    def test_new_names_that_match_differently(self):
        for told, told_too, many in [(("cup", "cup"), ("cup", "key"), 1), (("cup", "key"), ("key", "key"), 1),
                                     (("cup", "key"), ("key", "cup"), None), (("cup",), ("ann",), 1),
                                     (("cup", "ann"), ("key", "ann"), None), (("ann", "da"), ("da", "ann"), 1),
                                     ((), ("cup",), 1), (("cup",), ("cup", "cup"), 1), (("da",), ("da",), None)]:
            closet = ["ann", "cup", "da", "key"]
            views = [(House(["ann"], ["cup", "key"], [Gate(1, ["da"], closet, [("da", 0, "", 0, False, row)])],
                            [("ann", "da")]), "ann", ["da"]) for row in [told, told_too]]
            self.check(views[0], views[1], many)

    def test_a_name_told_again_that_matches_another_one(self):
        rules = [("da", 0, "", 1, False, ("cup", "key")), ("da", 1, "", 1, False, ("cup",))]
        views = [(House(["ann"], ["cup", "key"], [Gate(2, ["da"], ["cup", "key"], [rules[0], rule])], [("ann", "da")]),
                  "ann", ["da"]) for rule in [rules[1], ("da", 1, "", 1, False, ("key",))]]
        self.check(views[0], views[0], None)
        self.check(views[0], views[1], 2)

    def test_other_views(self):
        looked = []
        for seed in range(260):
            one, other = beside(seed)
            seen, many = plain_walk(one, other, 300)
            if seen is not None:
                looked.append(many)
                self.check(one, other, many)
        for many in [None, 1, 2, 3]:
            self.assertGreater(looked.count(many), 2, many)

    def test_against_all_lists_of_calls(self):
        for seed in range(40):
            one, other = beside(seed)
            if len(one[2]) > 2:
                continue
            row = list(itertools.product(range(len(one[2]) + 1), range(-1, len(one[2]) + 1)))
            unlike = any(shown(one, calls) != shown(other, calls)
                         for calls in [list(calls) for calls in itertools.product(row, repeat=2)])
            calls = parting(one, other)
            self.assertIs(calls is not None and len(calls) <= 2, unlike)

    def test_unlike_numbers_of_names(self):
        one, other = chest_view(), (market(), "ann", ["buy", "put"])
        for ask in [see_same, parting, lambda one, other: is_parting(one, other, None),
                    lambda one, other: is_parting(one, other, [(1, -1)])]:
            for pair in [(one, other), (other, one), ((House(["ann"], [], [], []), "ann", []), one)]:
                with self.assertRaises(Unlike):
                    ask(*pair)
        self.check(one, (market(), "bob", ["get"]), 1)

    def test_many_pairs(self):
        began = time.monotonic()
        self.check(wide_view(), wide_view(), None)
        self.check(wide_view(), other_names(wide_view()), None)
        house, guest, names = wide_view()
        gate = house.gates()[2].with_rule(("df", 0, "?", 0, False, ("+given", "+kept")))
        other = (house.with_gate(2, gate), guest, names)
        self.assertIsNone(parting(wide_view(), other))
        self.assertLess(time.monotonic() - began, 30)

    def test_equal_houses_in_whatever_order(self):
        for seed in range(60):
            (house, guest, names), other = beside(seed)
            too = shuffled(house, seed)
            self.assertEqual(parting((house, guest, names), other), parting((too, guest, names), other))
            self.check((house, guest, names), (too, guest, list(names)), None)
        one, other = (market(), "ann", ["buy", "put"]), (market_in_other_order(), "ann", ["put", "buy"])
        self.assertEqual(parting(one, other), parting((market_in_other_order(), "ann", ["buy", "put"]), other))

    def test_what_is_passed_stays_and_what_is_returned_may_be_changed(self):
        one, other = (market(), "ann", ["buy", "put"]), (market(), "ann", ["put", "buy"])
        calls = parting(one, other)
        parting(one, other).clear()
        shown(one, calls).clear()
        shown(one, calls * 2)[0].append(7)
        given = [(1, -1), (1, 3)]
        told = shown(one, given)
        is_parting(one, other, given)
        self.assertEqual(given, [(1, -1), (1, 3)])
        self.assertEqual(shown(one, given), told)
        self.assertEqual(parting(one, other), calls)
        self.assertEqual(one, (market_in_other_order(), "ann", ["buy", "put"]))
        self.assertEqual(other[2], ["put", "buy"])
        self.assertEqual(names_of(market(), "ann"), ["buy", "put"])


class IsPartingTest(unittest.TestCase):
    def test_up_to_the_last_one(self):
        one, other = (market(), "ann", ["buy", "put"]), (market(), "ann", ["put", "buy"])
        for thing, expected in [([(1, -1)], True), ([(2, -1)], True), ([(0, 0), (1, -1)], True), ([], False),
                                ([(1, 1)], False), ([(1, -1), (1, -1)], False), ([(1, -1), (0, -1)], False),
                                ([(0, -1)], False), (((1, -1),), False), ((1, -1), False), ([[1, -1]], False),
                                ([(0, 3), (1, -1)], False), ([(1, -1), None], False), ([None, (1, -1)], False)]:
            self.assertIs(is_parting(one, other, thing), expected, repr(thing))
            self.assertIs(plain_is_parting(one, other, thing), expected)

    def test_one_thing_otherwise(self):
        looked = []
        for seed in range(200):
            one, other = beside(seed)
            calls = parting(one, other)
            if calls is not None and len(calls) < 4:
                for thing in otherwise(calls) + [tuple(calls), calls * 2, calls[::-1], calls[1:], [(0, -1)] + calls]:
                    looked.append(plain_is_parting(one, other, thing))
                    self.assertIs(is_parting(one, other, thing), looked[-1], repr(thing))
        self.assertGreater(looked.count(True), 100)
        self.assertGreater(looked.count(False), 500)

    def test_no_calls(self):
        one, other = (market(), "ann", ["buy", "put"]), (market(), "ann", ["put", "buy"])
        for thing in NO_CALLS + [(3, -1), (0, 3)]:
            for calls in [[thing], [thing, (1, -1)], [(0, 0), thing, (1, -1)]]:
                self.assertIs(is_parting(one, other, calls), False)

    def test_any_value(self):
        one, other = (market(), "ann", ["buy", "put"]), (market(), "ann", ["put", "buy"])
        for thing in junk():
            for value in [thing, [thing], [thing, (1, -1)], [(0, -1), thing], [(1, -1), thing]]:
                self.assertIs(is_parting(one, other, value), False)

    def test_of_views_that_see_the_same(self):
        for calls in [[(1, -1)], [(1, 0)], [(1, -1), (1, -1)], [(0, 0)]]:
            self.assertIs(is_parting(chest_view(), box_view(), calls), False)

    def test_random_houses_with_unlike_guests(self):
        for seed in range(40):
            house = random_house(seed, 3, 2, 4)
            views = [(house, guest, names_of(house, guest)) for guest in house.guests()]
            for one, other in itertools.product(views, views):
                self.assertIs(is_view(one), True)
                if len(one[2]) != len(other[2]):
                    self.assertRaises(Unlike, see_same, one, other)
                    continue
                calls = parting(one, other)
                self.assertIs(see_same(one, other), calls is None)
                if calls is not None:
                    self.assertTrue(plain_is_parting(one, other, calls))


if __name__ == "__main__":
    unittest.main()
