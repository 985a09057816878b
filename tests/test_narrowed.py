import itertools
import time
import unittest

from letinside.facets import faceted
from letinside.gates import Gate
from letinside.houses import House
from letinside.narrowed import choice_house, keeps_out, weakest
from letinside.reach import can
from tests.samples import market, market_in_other_order, plain_has, plain_nodes, random_house, shuffled
from tests.test_facets import plain_faceted, till
from tests.test_nodes import many_nodes
from tests.test_reach import wishes

BOTH = ("ann", "bob")
CUP = (("bob", "cup"),)
WEAKER = {"all": [], "known": ["all"], "once": ["all"], "bare": ["known", "all"], "none": ["bare", "known", "once",
                                                                                           "all"]}


def is_weaker(one, other):
    """Whether one choice is weaker than another one."""
    return one != other and all(mine == word or mine in WEAKER[word] for mine, word in zip(one, other))


def plain_weakest(keeping):
    """The weakest ones of choices."""
    return sorted(choice for choice in keeping if not any(is_weaker(other, choice) for other in keeping))


def all_choices(pairs):
    return list(itertools.product(WEAKER, repeat=len(pairs)))


def door_pairs(house):
    return [pair for pair in house.first() if pair[1] in house.doors()]


def one_or_two(house):
    """Lists of one or two first pairs with doors, of some in both orders."""
    found = door_pairs(house)
    return [[pair] for pair in found] + [list(two) for two in itertools.permutations(found, 2)]


class ChoiceHouseTest(unittest.TestCase):
    def test_names(self):
        pairs = [("ann", "pay"), ("bob", "see")]
        self.assertEqual(choice_house(till(), pairs, ("all", "all")), till())
        for one, other in itertools.product(["none", "bare", "known", "once"], repeat=2):
            self.assertEqual(choice_house(till(), pairs, (one, "all")), faceted(till(), "ann", "pay", one, "a"))
            self.assertEqual(choice_house(till(), pairs, ("all", other)), faceted(till(), "bob", "see", other, "a"))
            self.assertEqual(choice_house(till(), pairs, (one, other)),
                             faceted(faceted(till(), "ann", "pay", one, "a"), "bob", "see", other, "b"))
            self.assertEqual(choice_house(till(), pairs[::-1], (one, other)),
                             faceted(faceted(till(), "bob", "see", one, "a"), "ann", "pay", other, "b"))
            self.assertEqual(choice_house(till(), pairs[:1], (one,)), faceted(till(), "ann", "pay", one, "a"))

    def test_names_that_are_taken(self):
        house = till().renamed({"cup": "a", "bob": "c", "other": "d"})
        pairs = [("ann", "pay"), ("c", "see")]
        self.assertEqual(choice_house(house, pairs, ("bare", "bare")).doors(), ["b", "d", "e", "pay", "see"])
        self.assertEqual(choice_house(house, pairs, ("bare", "bare")).first(),
                         [("ann", "a"), ("ann", "b"), ("c", "e"), ("c", "pay")])
        letters = list("abcdefghijklmnopqrstuvwxyz")
        for names, first, second in [(letters, "aa", "ab"), (letters[:25], "z", "aa"), (letters + ["aa"], "ab", "ac"),
                                     (letters[1:], "a", "aa"), (letters + ["a" + sign for sign in letters], "ba", "bb"),
                                     (letters[:25] + ["aa"], "z", "ab"),
                                     (letters + [one + other for one in letters for other in letters], "aaa", "aab"),
                                     (letters + [sign + other for sign in "abcdef" for other in letters], "ga", "gb")]:
            gate = Gate(1, ["pay", "see"], [], [])
            house = House(["ann"], names, [gate], [("ann", "pay"), ("ann", "see")])
            less = choice_house(house, [("ann", "pay"), ("ann", "see")], ("none", "once"))
            self.assertEqual(less.doors(), sorted(["pay", "see", first, second]))
            self.assertEqual(less.first(), sorted([("ann", first), ("ann", second)]))
            self.assertEqual(less.gates()[0].states, 2)

    def test_two_at_one_gate_and_at_two(self):
        same_door = [("ann", "pay"), ("bob", "pay")]
        for choice in itertools.product(["none", "bare", "known", "once"], repeat=2):
            expected = plain_faceted(plain_faceted(till(), "ann", "pay", choice[0], "a"), "bob", "pay", choice[1], "b")
            self.assertEqual(choice_house(till(), same_door, choice), expected)
        self.assertEqual(choice_house(till(), same_door, ("once", "once")).gates()[0].states, 8)
        two = [("ann", "buy"), ("bob", "get")]
        self.assertEqual([gate.states for gate in choice_house(market(), two, ("once", "once")).gates()], [4, 2])
        for choice in all_choices(two):
            less = market()
            if choice[0] != "all":
                less = plain_faceted(less, "ann", "buy", choice[0], "a")
            if choice[1] != "all":
                less = plain_faceted(less, "bob", "get", choice[1], "a" if choice[0] == "all" else "b")
            self.assertEqual(choice_house(market(), two, choice), less)


class KeepsOutTest(unittest.TestCase):
    def test_of_the_market(self):
        for word, kept in [("none", True), ("bare", True), ("known", True), ("once", False), ("all", False)]:
            self.assertIs(keeps_out(market(), BOTH, CUP, [("ann", "put")], (word,)), kept)
        for word, kept in [("none", True), ("bare", False), ("known", False), ("once", False), ("all", False)]:
            self.assertIs(keeps_out(market(), BOTH, CUP, [("ann", "buy")], (word,)), kept)
            self.assertIs(keeps_out(market(), BOTH, CUP, [("bob", "get")], (word,)), kept)
            self.assertIs(keeps_out(market(), BOTH, CUP, [("bob", "get"), ("ann", "put")], (word, "once")), kept)
            self.assertIs(keeps_out(market(), ("ann",), CUP, [("ann", "buy")], (word,)), True)

    def test_other_houses(self):
        told = []
        for seed in range(60):
            house = random_house(seed, 3, 2, 3)
            acting = tuple(house.guests()[:2])
            for pairs in one_or_two(house)[seed % 3::4][:2]:
                for choice in all_choices(pairs)[seed % 4::7]:
                    found = plain_nodes(choice_house(house, pairs, choice), acting)
                    if len(found) <= 30:
                        for wish in wishes(house, 1)[seed % 5::5]:
                            told.append(not any(plain_has(node, wish) for node in found))
                            self.assertIs(keeps_out(house, acting, wish, pairs, choice), told[-1])
        self.assertGreater(min(told.count(True), told.count(False)), 50)


class WeakestTest(unittest.TestCase):
    def check(self, house, acting, wish, pairs):
        """Check the weakest choices by all choices, and return them."""
        keeping = [choice for choice in all_choices(pairs) if not can(choice_house(house, pairs, choice), acting, wish)]
        found = weakest(house, acting, wish, pairs)
        self.assertEqual(found, plain_weakest(keeping))
        for choice in keeping:
            self.assertTrue(choice in found or any(is_weaker(other, choice) for other in found))
        return found

    def test_of_the_market(self):
        self.assertEqual(self.check(market(), BOTH, CUP, [("ann", "put")]), [("known",)])
        self.assertEqual(self.check(market(), BOTH, CUP, [("ann", "buy")]), [("none",)])
        self.assertEqual(self.check(market(), BOTH, CUP, [("ann", "buy"), ("ann", "put")]), [("all", "known"), ("none",
                                                                                                                "all")])
        self.assertEqual(self.check(market(), BOTH, CUP, [("ann", "put"), ("ann", "buy")]), [("all", "none"), ("known",
                                                                                                               "all")])
        self.assertEqual(self.check(market(), BOTH, CUP, [("ann", "buy"), ("bob", "get")]), [("all", "none"), ("none",
                                                                                                               "all")])

    def test_a_wish_that_cannot_come_anyhow(self):
        self.assertEqual(self.check(market(), ("ann",), CUP, [("ann", "put")]), [("all",)])
        self.assertEqual(self.check(market(), (), CUP, [("ann", "put"), ("bob", "get")]), [("all", "all")])

    def test_a_wish_that_stands_at_first(self):
        self.assertEqual(self.check(market(), BOTH, (("bob", "bob"),), [("ann", "put")]), [])
        self.assertEqual(self.check(market(), BOTH, (("bob", "get"),), [("ann", "put")]), [])
        self.assertEqual(self.check(market(), (), (("bob", "get"),), [("bob", "get"), ("ann", "put")]),
                         [("known", "all"), ("once", "all")])
        self.assertEqual(self.check(market(), (), (("ann", "buy"), ("bob", "get")), [("ann", "buy"), ("bob", "get")]),
                         [("all", "known"), ("all", "once"), ("known", "all"), ("once", "all")])

    def test_once_that_keeps_out_what_takes_two(self):
        rules = [("da", 0, "", 1, False, ()), ("da", 1, "", 1, False, ("cup",)), ("db", 1, "?", 0, False, ("key",))]
        house = House(["ann"], ["cup", "key"], [Gate(2, ["da", "db"], ["cup", "key"], rules)], [("ann", "da"), ("ann",
                                                                                                                "db")])
        self.assertEqual(self.check(house, ("ann",), (("ann", "cup"),), [("ann", "da")]), [("once",)])
        self.assertEqual(self.check(house, ("ann",), (("ann", "key"),), [("ann", "da")]), [("none",)])
        self.assertEqual(self.check(house, ("ann",), (("ann", "key"),), [("ann", "db"), ("ann", "da")]),
                         [("all", "none"), ("known", "all")])
        self.assertEqual(self.check(house, ("ann",), (("ann", "cup"), ("ann", "key")), [("ann", "db"), ("ann", "da")]),
                         [("all", "once"), ("known", "all")])

    def test_where_a_facet_lets_what_the_door_does_not(self):
        # All names but that of the facet are known to the gate, so that only a facet can be given as any other name.
        rules = [("da", 0, "?", 0, False, ("cup",))]
        house = House(["ann"], ["cup"], [Gate(1, ["da"], ["ann", "cup", "da", "db"], rules), Gate(1, ["db"], [], [])],
                      [("ann", "da"), ("ann", "db")])
        wish = (("ann", "cup"),)
        self.assertEqual([can(choice_house(house, [("ann", "db")], (word,)), ("ann",), wish) for word in WEAKER],
                         [False, True, True, True, True])
        self.assertEqual(self.check(house, ("ann",), wish, [("ann", "db")]), [("all",)])
        self.assertEqual(self.check(house, ("ann",), wish, [("ann", "db"), ("ann", "da")]), [("all", "all")])

    def test_other_houses(self):
        sizes = []
        for seed in range(100):
            house = random_house(seed, 3, 2, 4)
            acting = tuple(house.guests())[seed % 2:]
            for pairs in one_or_two(house)[seed % 3::5][:2]:
                for wish in wishes(house, 1)[seed % 4::9]:
                    sizes.append(len(self.check(house, acting, wish, pairs)))
        for many in range(3):
            self.assertGreater(sizes.count(many), 10)

    def test_a_house_of_many_nodes(self):
        began = time.monotonic()
        house = many_nodes()
        acting, pairs = ("ann", "cat", "dan"), [("ann", "tick"), ("cat", "flip")]
        self.assertEqual(self.check(house, acting, (("ann", "cup"),), pairs), [("once", "all")])
        self.assertEqual(self.check(house, acting, (("cat", "key"),), pairs), [("all", "known"), ("all", "once")])
        self.assertLess(time.monotonic() - began, 60)

    def test_equal_houses_in_whatever_order(self):
        for seed in range(40):
            house = random_house(seed, 3, 2, 4)
            for pairs in one_or_two(house)[::7]:
                for wish in wishes(house, 1)[::11]:
                    self.assertEqual(weakest(house, ("ann",), wish, pairs), weakest(shuffled(house, seed), ("ann",),
                                                                                    wish, pairs))

    def test_arguments_stay_and_results_may_be_changed(self):
        house, pairs = market(), [("ann", "put"), ("ann", "buy")]
        told = weakest(house, BOTH, CUP, pairs)
        weakest(house, BOTH, CUP, pairs).clear()
        keeps_out(house, BOTH, CUP, pairs, ("once", "none"))
        self.assertEqual(weakest(house, BOTH, CUP, pairs), told)
        self.assertEqual((house, pairs), (market_in_other_order(), [("ann", "put"), ("ann", "buy")]))
        self.assertTrue(all(type(choice) is tuple for choice in told))


if __name__ == "__main__":
    unittest.main()
