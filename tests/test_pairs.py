import random
import time
import unittest

from letinside.errors import Unlike
from letinside.gates import Gate
from letinside.houses import House
from letinside.pairs import are_pairs, pairs
from letinside.views import see_same
from tests.samples import junk, market, market_in_other_order, otherwise, shuffled
from tests.test_views import wide_view
from tests.viewing import begun, beside, box_view, chest_view, other_names, pair_of, plain_step, plain_walk

POST = ((0, ""),)


def has_form(one, other, pair):
    """Whether a value has the form of a pair, from the words of the document."""
    if type(pair) is not tuple or len(pair) != 3:
        return False
    for house, gates in [(one[0], pair[0]), (other[0], pair[1])]:
        if type(gates) is not tuple or len(gates) != len(house.gates()):
            return False
        for gate, part in zip(house.gates(), gates):
            if type(part) is not tuple or len(part) != 2 or type(part[0]) is not int or type(part[1]) is not str:
                return False
            if not 0 <= part[0] < gate.states or part[1] not in ["", *house.objects()]:
                return False
    matches = pair[2]
    if type(matches) is not tuple or not all(type(match) is tuple and len(match) == 2 for match in matches):
        return False
    if not all(type(name) is str for match in matches for name in match) or list(matches) != sorted(matches):
        return False
    for house, side in [(one[0], [match[0] for match in matches]), (other[0], [match[1] for match in matches])]:
        if len(set(side)) != len(side) or not set(side) <= set(house.objects()):
            return False
    return (one[1], other[1]) in matches


def pair_behind(one, other, pair, door, given):
    """The pair behind a call by two matches, or None, by the steps of two views that know just these names."""
    mine, theirs = [name for name, _ in pair[2]], [name for _, name in pair[2]]
    call = (pair[2].index(door), -1 if given is None else pair[2].index(given))
    behind, shows = plain_step(one[0], (pair[0], tuple(mine)), call)
    behind_too, shows_too = plain_step(other[0], (pair[1], tuple(theirs)), call)
    return pair_of((behind, behind_too)) if shows == shows_too else None


def plain_are_pairs(one, other, thing):
    """Whether thing is a closed list of pairs, from the words of the document."""
    if type(thing) is not list or not all(has_form(one, other, pair) for pair in thing):
        return False
    if len(set(thing)) != len(thing) or pair_of((begun(one), begun(other))) not in thing:
        return False
    return all(pair_behind(one, other, pair, door, given) in thing
               for pair in thing for door in pair[2] for given in [None, *pair[2]])


def closure(one, other, begins):
    """All pairs to which calls lead from some pairs, or None if two unlike things are told."""
    found = list(begins)
    for pair in found:
        for door in pair[2]:
            for given in [None, *pair[2]]:
                behind = pair_behind(one, other, pair, door, given)
                if behind is None:
                    return None
                if behind not in found:
                    found.append(behind)
    return found


class PairsTest(unittest.TestCase):
    def test_of_the_document(self):
        begin = (("ann", "eve"), ("pick", "take"))
        self.assertEqual(pairs(chest_view(), box_view()), [
            (((0, ""),), ((0, ""),), begin),
            (((1, ""),), ((1, ""),), (("ann", "eve"), ("cup", "coin"), ("pick", "take"))),
            (((1, ""),), ((1, ""),), (("ann", "eve"), ("key", "coin"), ("pick", "take")))])
        self.assertIs(are_pairs(chest_view(), box_view(), pairs(chest_view(), box_view())), True)

    def test_no_doors(self):
        view = (House(["ann", "bob"], ["cup"], [], [("ann", "cup"), ("ann", "bob")]), "ann", ["cup", "bob"])
        other = (House(["ann"], ["cup", "pen"], [], [("ann", "cup"), ("ann", "pen")]), "ann", ["pen", "cup"])
        self.assertEqual(pairs(view, other), [((), (), (("ann", "ann"), ("bob", "cup"), ("cup", "pen")))])

    def test_houses_with_unlike_numbers_of_gates(self):
        one = (House(["ann"], ["cup"], [Gate(2, ["da"], [], [("da", 0, "", 1, False, ())]), Gate(1, ["db"], [], [])],
                     [("ann", "da")]), "ann", ["da"])
        other = (House(["eve"], ["pen"], [], [("eve", "pen")]), "eve", ["pen"])
        matches = (("ann", "eve"), ("da", "pen"))
        self.assertEqual(pairs(one, other), [(((0, ""), (0, "")), (), matches), (((1, ""), (0, "")), (), matches)])
        self.assertEqual(pairs(other, one), [((), ((0, ""), (0, "")), (("eve", "ann"), ("pen", "da"))),
                                             ((), ((1, ""), (0, "")), (("eve", "ann"), ("pen", "da")))])

    def test_of_what_is_kept(self):
        post = Gate(1, ["put", "get"], [], [("put", 0, "?", 0, True, ()), ("get", 0, "", 0, False, ("+kept",))])
        view = (House(["ann"], [], [post], [("ann", "put"), ("ann", "get")]), "ann", ["put", "get"])
        matches = (("ann", "ann"), ("get", "get"), ("put", "put"))
        self.assertEqual(pairs(view, view),
                         [(((0, name),), ((0, name),), matches) for name in ["", "ann", "get", "put"]])

    def test_just_where_two_views_see_the_same(self):
        looked = []
        for seed in range(260):
            one, other = beside(seed)
            seen, many = plain_walk(one, other, 300)
            if seen is None:
                continue
            looked.append(many is None)
            found = pairs(one, other)
            self.assertIs(see_same(one, other), found is not None)
            if many is not None:
                self.assertIsNone(found)
                continue
            self.assertEqual(found, sorted({pair_of(state) for state in seen}))
            self.assertIs(type(found), list)
            if len(found) < 30:
                self.assertTrue(plain_are_pairs(one, other, found))
            self.assertIs(are_pairs(one, other, found), True)
        self.assertGreater(looked.count(True), 60)
        self.assertGreater(looked.count(False), 40)

    def test_the_least_closed_list(self):
        for seed in range(60):
            one, other = beside(seed)
            found = pairs(one, other)
            if found is not None and len(found) < 40:
                for at in range(len(found)):
                    self.assertIs(are_pairs(one, other, found[:at] + found[at + 1:]), False)

    def test_unlike_numbers_of_names(self):
        one, other = chest_view(), (market(), "ann", ["buy", "put"])
        for ask in [pairs, lambda one, other: are_pairs(one, other, []), lambda one, other: are_pairs(one, other, 7)]:
            for row in [(one, other), (other, one)]:
                with self.assertRaises(Unlike):
                    ask(*row)

    def test_many_pairs(self):
        began = time.monotonic()
        found = pairs(wide_view(), other_names(wide_view()))
        self.assertEqual(len(found), 5454)
        self.assertIs(are_pairs(wide_view(), other_names(wide_view()), found), True)
        self.assertIs(are_pairs(wide_view(), other_names(wide_view()), found[:-1]), False)
        self.assertLess(time.monotonic() - began, 30)

    def test_equal_houses_in_whatever_order(self):
        for seed in range(60):
            one, other = beside(seed)
            too = (shuffled(one[0], seed), one[1], one[2])
            self.assertEqual(pairs(one, other), pairs(too, other))
            mixed = list(zip(one[2], other[2]))
            random.Random(seed).shuffle(mixed)
            self.assertEqual(pairs(one, other), pairs((one[0], one[1], [name for name, _ in mixed]),
                                                      (other[0], other[1], [name for _, name in mixed])))

    def test_what_is_passed_stays_and_what_is_returned_may_be_changed(self):
        one, other = (market(), "ann", ["buy", "put"]), (market_in_other_order(), "ann", ["buy", "put"])
        found = pairs(one, other)
        pairs(one, other).clear()
        see_same(one, other)
        given = list(reversed(found))
        are_pairs(one, other, given)
        self.assertEqual(given, found[::-1])
        self.assertEqual(pairs(one, other), found)
        self.assertEqual((one[2], other[2]), (["buy", "put"], ["buy", "put"]))


class ArePairsTest(unittest.TestCase):
    def tells(self, one, other, thing):
        """Check whether thing is a closed list of pairs, and return it."""
        found = are_pairs(one, other, thing)
        self.assertIs(found, plain_are_pairs(one, other, thing), repr(thing))
        return found

    def test_in_any_order(self):
        chance = random.Random(2)
        one, other = (market(), "ann", ["buy", "put"]), (market(), "ann", ["buy", "put"])
        found = pairs(one, other)
        for _ in range(5):
            chance.shuffle(found)
            self.assertTrue(self.tells(one, other, found))
        self.assertFalse(self.tells(one, other, []))
        self.assertFalse(self.tells(one, other, tuple(found)))

    def test_greater_closed_ones(self):
        one, other = chest_view(), box_view()
        found = pairs(one, other)
        matches = (("ann", "eve"), ("pick", "take"))
        for more in [(((1, ""),), ((1, ""),), matches), (((0, "cup"),), ((0, "take"),), matches),
                     (((0, ""),), ((0, ""),), (("ann", "eve"), ("pick", "coin"))),
                     (((1, "key"),), ((1, ""),), matches[:1])]:
            whole = closure(one, other, found + [more])
            if whole is not None:
                self.assertTrue(self.tells(one, other, whole))
                self.assertGreater(len(whole), len(found))
        whole = closure(one, other, found + [(((0, "cup"),), ((0, "take"),), matches)])
        self.assertEqual(len(whole), 6)
        self.assertFalse(self.tells(one, other, found + whole[3:4]))
        self.assertFalse(self.tells(one, other, whole[3:]))

    def test_a_pair_that_is_parted_later(self):
        one, other = chest_view(), box_view()
        found = pairs(one, other)
        both = (((0, ""),), ((0, ""),), (("ann", "eve"), ("cup", "coin"), ("pick", "take")))
        self.assertFalse(self.tells(one, other, found + [both]))
        self.assertFalse(self.tells(one, other, found + [(((0, ""),), ((1, ""),), both[2])]))
        self.assertTrue(self.tells(one, other, found + [(((1, "pick"),), ((1, "coin"),), both[2])]))

    def test_kept_names_that_are_not_matched(self):
        post = Gate(1, ["put", "get"], [], [("put", 0, "?", 0, True, ()), ("get", 0, "", 0, False, ("+kept",))])
        view = (House(["ann"], ["cup", "key"], [post], [("ann", "put"), ("ann", "get")]), "ann", ["put", "get"])
        found = pairs(view, view)
        for mine in ["", "cup", "key", "put"]:
            for theirs in ["", "cup", "key", "put", "ann"]:
                begin = (((0, mine),), ((0, theirs),), found[0][2])
                whole = closure(view, view, found + [begin])
                self.assertIs(whole is not None, (mine == "") == (theirs == "") and (mine == "put") == (theirs == "put")
                              and theirs != "ann")
                self.tells(view, view, whole or found + [begin])

    def test_a_pair_out_and_twice(self):
        for seed in [1, 2, 7, 8, 13, 14]:
            one, other = beside(seed)
            found = pairs(one, other)
            for at in range(len(found or [])):
                self.assertFalse(self.tells(one, other, found[:at] + found[at + 1:]))
                self.assertFalse(self.tells(one, other, found + [found[at]]))

    def test_form(self):
        one, other = chest_view(), box_view()
        found = pairs(one, other)
        gates, gates_too, matches = (((1, ""),), ((1, ""),), (("ann", "eve"), ("pick", "take")))
        right, turned = (gates, gates_too, matches), (gates, gates_too, matches[::-1])
        self.assertTrue(self.tells(one, other, found + [right]))
        self.assertFalse(self.tells(one, other, found + [right, turned]))
        for pair in [(((2, ""),), gates_too, matches), (gates, ((2, ""),), matches),
                     (((True, ""),), gates_too, matches), (gates, ((True, ""),), matches),
                     (((1, "coin"),), gates_too, matches), (gates, ((1, "cup"),), matches),
                     (((1, None),), gates_too, matches), ((), gates_too, matches), (gates * 2, gates_too, matches),
                     ([(1, "")], gates_too, matches), (([1, ""],), gates_too, matches),
                     (gates, gates_too, list(matches)), turned, (gates, gates_too, matches * 2), (gates, gates_too, ()),
                     (gates, gates_too, matches[1:]), (gates, gates_too, (("ann", "take"), ("pick", "eve"))),
                     (gates, gates_too, (("ann", "eve"), ("cup", "coin"), ("key", "coin"))),
                     (gates, gates_too, (("ann", "coin"), ("ann", "eve"))),
                     (gates, gates_too, (("ann", "eve"), ("zed", "coin"))),
                     (gates, gates_too, (("ann", "eve"), ("cup", "zed"))), (gates, gates_too, (["ann", "eve"],)),
                     (gates, gates_too, (("ann", "eve"), ("cup", "coin", "coin"))),
                     (gates, gates_too, (("ann", "eve"), "cu")),
                     (gates, gates_too), (gates, gates_too, matches, ()), [gates, gates_too, matches],
                     (gates, gates_too, (("ann", "eve"), ("cup", "")))]:
            self.assertFalse(self.tells(one, other, found + [pair]))

    def test_one_thing_otherwise(self):
        looked = []
        for one, other in [(chest_view(), box_view()), beside(1), beside(2)]:
            found = pairs(one, other)
            for at in range(min(3, len(found))):
                for pair in otherwise(found[at]):
                    looked.append(self.tells(one, other, found[:at] + [pair] + found[at + 1:]))
            for thing in otherwise(found[:1]):
                thing = thing + found[1:] if type(thing) is list else thing
                self.tells(one, other, thing)
        self.assertGreater(looked.count(False), 300)

    def test_any_value(self):
        one, other = chest_view(), box_view()
        found = pairs(one, other)
        for thing in junk():
            for value in [thing, [thing], found + [thing], [thing] + found, found + [(thing, thing, thing)],
                          found + [(POST, POST, thing)], found + [(thing, POST, found[0][2])],
                          found + [(POST, POST, (("ann", "eve"), thing))]]:
                self.assertIs(are_pairs(one, other, value), False)

    def test_of_views_that_are_parted(self):
        looked = 0
        for seed in range(200):
            one, other = beside(seed)
            if pairs(one, other) is None:
                begin = pair_of((begun(one), begun(other)))
                whole = [pair for pair in closure(one, one, [pair_of((begun(one), begun(one)))])[:20] if pair != begin]
                self.assertFalse(self.tells(one, other, [begin]))
                self.assertFalse(self.tells(one, other, [begin] + whole))
                looked += 1
        self.assertGreater(looked, 30)


if __name__ == "__main__":
    unittest.main()
