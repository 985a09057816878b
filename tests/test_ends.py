import itertools
import time
import unittest

from letinside.ends import apart, ever, most_held
from letinside.gates import Gate
from letinside.houses import House
from letinside.reach import can
from letinside.stands import first_stand
from tests.samples import choice_house, market, market_in_other_order, plain_has, plain_nodes, random_house, shuffled
from tests.test_growing import groups
from tests.test_nodes import many_nodes

BOTH = ("ann", "bob")


def chest():
    """A house in which one of two things can be picked."""
    once = Gate(2, ["pick"], ["cup", "key"],
                [("pick", 0, "", 1, False, ("cup",)), ("pick", 0, "?", 1, False, ("key",))])
    return House(["ann"], ["cup", "key"], [once], [("ann", "pick")])


def switch():
    """A house with a gate that goes to and fro, telling nothing."""
    gate = Gate(2, ["flip"], [], [("flip", 0, "", 1, False, ()), ("flip", 1, "", 0, False, ())])
    return House(["ann", "bob"], [], [gate], [("bob", "flip")])


def sets_held(stand):
    """What the guests hold, as sets."""
    return {guest: set(names) for guest, names in stand[1]}


def plain_most_held(found):
    """The held parts that are less than no other one's."""
    held = sorted({node[1] for node in found})
    return [own for own in held if not any(own != other and all(set(names) <= set(dict(other)[guest])
                                                               for guest, names in own) for other in held)]


class EverTest(unittest.TestCase):
    def test_the_market(self):
        self.assertEqual(ever(market(), BOTH), {"ann": ["ann", "bob", "buy", "cup", "get", "put"],
                                                "bob": ["ann", "bob", "buy", "cup", "get", "put"]})
        self.assertEqual(ever(market(), ("ann",)), {"ann": ["ann", "buy", "cup", "put"], "bob": ["bob", "get"]})
        self.assertEqual(ever(market(), ("bob",)), {"ann": ["ann", "buy", "put"], "bob": ["bob", "get"]})

    def test_nobody_acting(self):
        for house in [market(), chest(), random_house(5)]:
            self.assertEqual(ever(house, ()), {guest: list(names) for guest, names in first_stand(house)[1]})
        self.assertEqual(ever(House([], [], [], []), ()), {})

    def test_each_name_by_itself(self):
        self.assertEqual(ever(chest(), ("ann",)), {"ann": ["ann", "cup", "key", "pick"]})

    def test_who_does_not_act_may_be_handed_names(self):
        house = House(["ann", "bob", "cat"], ["cup"], [], [("bob", "ann"), ("bob", "cup")])
        self.assertEqual(ever(house, ("bob",)), {"ann": ["ann", "bob", "cup"], "bob": ["ann", "bob", "cup"],
                                                 "cat": ["cat"]})
        self.assertEqual(ever(house, ("ann", "cat"))["ann"], ["ann"])

    def test_keys_and_lists_ascend(self):
        house = House(("dan", "bob", "ann"), ["pen", "cup"], [], [("dan", "pen"), ("dan", "cup"), ("dan", "ann")])
        found = ever(house, ("dan",))
        self.assertIs(type(found), dict)
        self.assertEqual(list(found), ["ann", "bob", "dan"])
        self.assertEqual(found["dan"], ["ann", "cup", "dan", "pen"])
        for names in found.values():
            self.assertIs(type(names), list)

    def test_other_houses(self):
        for seed in range(100):
            house = random_house(seed, 3, 2, 3)
            for acting in groups(house):
                found = plain_nodes(house, acting)
                expected = {guest: sorted({name for node in found for name in dict(node[1])[guest]})
                            for guest in house.guests()}
                self.assertEqual(ever(house, acting), expected)
                self.assertEqual(list(ever(house, acting)), house.guests())

    def test_a_name_comes_just_if_a_wish_for_it_can(self):
        for seed in range(30):
            house = random_house(seed, 3, 2, 3)
            acting = tuple(house.guests()[:2])
            found = ever(house, acting)
            for guest in house.guests():
                for name in house.objects():
                    self.assertIs(name in found[guest], can(house, acting, ((guest, name),)))


class MostHeldTest(unittest.TestCase):
    def test_one_of_two(self):
        self.assertEqual(most_held(chest(), ("ann",)), [(("ann", ("ann", "cup", "pick")),),
                                                        (("ann", ("ann", "key", "pick")),)])

    def test_different_gates_with_the_same_held_part(self):
        self.assertEqual(len(plain_nodes(switch(), BOTH)), 2)
        self.assertEqual(most_held(switch(), BOTH), [(("ann", ("ann",)), ("bob", ("bob", "flip")))])
        self.assertEqual(most_held(switch(), ()), [(("ann", ("ann",)), ("bob", ("bob", "flip")))])

    def test_less_with_other_gates(self):
        rules = [("da", 0, "", 1, False, ("cup",)), ("da", 1, "", 2, False, ())]
        house = House(["ann"], ["cup"], [Gate(3, ["da"], ["cup"], rules)], [("ann", "da")])
        self.assertEqual(most_held(house, ("ann",)), [(("ann", ("ann", "cup", "da")),)])

    def test_nobody_acting(self):
        for house in [market(), chest(), random_house(5), House([], [], [], [])]:
            self.assertEqual(most_held(house, ()), [first_stand(house)[1]])

    def test_other_houses(self):
        several = 0
        for seed in range(120):
            house = random_house(seed, 3, 2, 3) if seed % 2 else choice_house(seed)
            for acting in groups(house)[::2] + [tuple(house.guests())]:
                expected = plain_most_held(plain_nodes(house, acting))
                several += len(expected) > 1
                self.assertEqual(most_held(house, acting), expected)
        self.assertGreater(several, 20)


class ApartTest(unittest.TestCase):
    def test_one_of_two(self):
        self.assertEqual(apart(chest(), ("ann",)), [(("ann", "cup"), ("ann", "key"))])

    def test_nobody_acting(self):
        for house in [market(), chest(), random_house(5), House([], [], [], [])]:
            self.assertEqual(apart(house, ()), [])

    def test_none(self):
        self.assertEqual(apart(market(), BOTH), [])
        self.assertEqual(apart(switch(), BOTH), [])

    def test_of_two_guests(self):
        once = Gate(2, ["pick", "take"], ["cup"],
                    [("pick", 0, "", 1, False, ("cup",)), ("take", 0, "", 1, False, ("cup",))])
        house = House(["ann", "bob"], ["cup"], [once], [("ann", "pick"), ("bob", "take")])
        self.assertEqual(apart(house, BOTH), [(("ann", "cup"), ("bob", "cup"))])
        self.assertEqual(apart(house, ("bob",)), [])

    def test_other_houses(self):
        several = 0
        for seed in range(120):
            house = random_house(seed, 3, 2, 3) if seed % 2 else choice_house(seed)
            pairs = [(guest, name) for guest in house.guests() for name in house.objects()]
            for acting in groups(house)[::2] + [tuple(house.guests())]:
                found = plain_nodes(house, acting)
                coming = [pair for pair in pairs if any(plain_has(node, (pair,)) for node in found)]
                expected = [wish for wish in itertools.combinations(coming, 2)
                            if not any(plain_has(node, wish) for node in found)]
                several += len(expected)
                self.assertEqual(apart(house, acting), expected)
        self.assertGreater(several, 100)

    def test_each_is_a_wish_that_cannot_come(self):
        for seed in range(40):
            house = choice_house(seed)
            acting = tuple(house.guests())
            for wish in apart(house, acting)[:20]:
                self.assertLess(wish[0], wish[1])
                self.assertIs(can(house, acting, wish), False)
                self.assertIs(can(house, acting, wish[:1]) and can(house, acting, wish[1:]), True)


class AllTest(unittest.TestCase):
    def test_a_house_of_many_nodes(self):
        began = time.monotonic()
        acting = ("ann", "bob", "cat", "dan")
        found = plain_nodes(many_nodes(), acting)
        self.assertEqual(ever(many_nodes(), acting)["bob"], sorted({name for node in found
                                                                    for name in sets_held(node)["bob"]}))
        self.assertEqual(most_held(many_nodes(), acting), plain_most_held(found))
        for wish in apart(many_nodes(), acting):
            self.assertFalse(any(plain_has(node, wish) for node in found))
        self.assertLess(time.monotonic() - began, 30)

    def test_equal_houses_in_whatever_order(self):
        for seed in range(40):
            house, other = choice_house(seed), shuffled(choice_house(seed), seed)
            for acting in groups(house)[::2]:
                for ask in [ever, most_held, apart]:
                    self.assertEqual(ask(house, acting), ask(other, acting))
                self.assertEqual(list(ever(house, acting)), list(ever(other, acting)))

    def test_what_is_returned_may_be_changed(self):
        for house, acting in [(market(), BOTH), (chest(), ("ann",))]:
            told = [ever(house, acting), most_held(house, acting), apart(house, acting)]
            ever(house, acting)["ann"].clear()
            ever(house, acting).clear()
            most_held(house, acting).clear()
            apart(house, acting).clear()
            can(house, acting, (("ann", "cup"),))
            self.assertEqual([ever(house, acting), most_held(house, acting), apart(house, acting)], told)
        self.assertEqual(market(), market_in_other_order())


if __name__ == "__main__":
    unittest.main()
