import time
import unittest

from letinside.doing import deeds_at, is_turn, led
from letinside.gates import Gate
from letinside.growing import grown, is_grown
from letinside.houses import House
from letinside.nodes import next_nodes, nodes, turns_to, way_to
from letinside.stands import first_stand
from tests.samples import market, market_in_other_order, plain_next, plain_nodes, random_house, shuffled
from tests.test_growing import groups

BOTH = ("ann", "bob")


def many_nodes():
    """A house at the bounds, with 300 nodes: four guests who all act, a clock, a switch, a gate that keeps."""
    clock = [("tick", at, "", at + 1, False, ("cup",) if at == 2 else ()) for at in range(3)]
    switch = [("flip", 0, "?", 1, False, ()), ("flip", 1, "?", 0, False, ("key",))]
    slot = [("put", 0, "?", 0, True, ()), ("get", 0, "", 0, False, ("+kept",))]
    gates = [Gate(4, ["tick"], ["cup"], clock), Gate(2, ["flip"], ["key"], switch), Gate(1, ["put", "get"], [], slot)]
    first = [("ann", "tick"), ("ann", "put"), ("dan", "get"), ("cat", "flip")]
    return House(["ann", "bob", "cat", "dan"], ["cup", "key", "pen"], gates, first)


class NextNodesTest(unittest.TestCase):
    def test_of_the_market(self):
        begin = first_stand(market())
        found = next_nodes(market(), begin, BOTH)
        self.assertEqual([node[0] for node in found], [((0, ""), (0, "ann")), ((0, ""), (0, "buy")),
                                                       ((0, ""), (0, "put")), ((1, ""), (0, ""))])
        self.assertEqual(found[0][1], (("ann", ("ann", "bob", "buy", "get", "put")),
                                       ("bob", ("ann", "bob", "buy", "get", "put"))))
        self.assertEqual(next_nodes(market(), begin, ("bob",)), [])
        self.assertEqual(next_nodes(market(), begin, ()), [])

    def test_of_other_houses(self):
        for seed in range(60):
            house = random_house(seed, 3, 2, 4)
            acting = tuple(house.guests())
            node = grown(house, first_stand(house), acting)
            for _ in range(4):
                found = next_nodes(house, node, acting)
                self.assertEqual(found, sorted(plain_next(house, node, acting)))
                node = found[-1] if found else node

    def test_from_a_grown_stand_that_is_no_node(self):
        house = market()
        stand = grown(house, (((0, ""), (0, "cup")), (("ann", ("ann", "bob", "put")), ("bob", ("bob",)))), BOTH)
        self.assertNotIn(stand, nodes(house, BOTH))
        self.assertEqual(next_nodes(house, stand, BOTH), sorted(plain_next(house, stand, BOTH)))

    def test_each_once(self):
        for house in [market(), random_house(11)]:
            found = next_nodes(house, grown(house, first_stand(house), BOTH), BOTH)
            self.assertEqual(found, sorted(set(found)))


class NodesTest(unittest.TestCase):
    def test_nobody_acts(self):
        self.assertEqual(nodes(market(), ()), [first_stand(market())])
        self.assertEqual(turns_to(market(), ()), [(first_stand(market()), 0)])
        self.assertEqual(len(nodes(market(), ("bob",))), 1)

    def test_a_house_with_nothing(self):
        self.assertEqual(turns_to(House([], [], [], []), ()), [(((), ()), 0)])

    def test_turns_to_with_the_fewest_steps(self):
        gate = Gate(4, ["a", "b"], [], [("a", 0, "", 1, False, ()), ("a", 1, "", 2, False, ()),
                                        ("a", 2, "", 3, False, ()), ("b", 0, "", 2, False, ())])
        house = House(["ann"], [], [gate], [("ann", "a"), ("ann", "b")])
        found = turns_to(house, ("ann",))
        self.assertEqual([(node[0][0][0], turns) for node, turns in found], [(0, 0), (1, 1), (2, 1), (3, 2)])

    def test_other_houses(self):
        for seed in range(120):
            house = random_house(seed, 3, 2, 3)
            for acting in groups(house):
                steps = plain_nodes(house, acting)
                self.assertEqual(turns_to(house, acting), sorted(steps.items()))
                self.assertEqual(nodes(house, acting), sorted(steps))
                for node in nodes(house, acting):
                    self.assertIs(is_grown(house, node, acting), True)

    def test_equal_houses_in_whatever_order(self):
        self.assertEqual(turns_to(market(), BOTH), turns_to(market_in_other_order(), BOTH))
        for seed in range(30):
            house, other = random_house(seed, 3, 2, 4), shuffled(random_house(seed, 3, 2, 4), seed)
            acting = tuple(house.guests())
            found = turns_to(house, acting)
            self.assertEqual(found, turns_to(other, acting))
            for node, _ in found[:10]:
                self.assertEqual(way_to(house, acting, node), way_to(other, acting, node))

    def test_what_is_returned_may_be_changed(self):
        house = market()
        expected = len(nodes(house, BOTH))
        nodes(house, BOTH).clear()
        turns_to(house, BOTH).clear()
        next_nodes(house, first_stand(house), BOTH).clear()
        way_to(house, BOTH, nodes(house, BOTH)[-1]).clear()
        self.assertEqual(len(nodes(house, BOTH)), expected)
        self.assertEqual(len(turns_to(house, BOTH)), expected)
        self.assertEqual(len(next_nodes(house, first_stand(house), BOTH)), 4)

    def test_a_house_of_many_nodes(self):
        began = time.monotonic()
        house = many_nodes()
        acting = ("ann", "bob", "cat", "dan")
        found = turns_to(house, acting)
        self.assertEqual(len(found), 300)
        self.assertEqual(found, sorted(plain_nodes(house, acting).items()))
        self.assertEqual(max(turns for _, turns in found), 10)
        for node, turns in found[::17]:
            check_way(self, house, acting, node, turns)
        self.assertEqual(len(nodes(random_house(11), acting)), 282)
        self.assertLess(time.monotonic() - began, 30)


def check_way(test, house, acting, node, turns):
    """Check that the way to a node is a play that leads just there with so many turns."""
    play = way_to(house, acting, node)
    stands = led(house, first_stand(house), play)
    test.assertEqual(stands[-1], node)
    test.assertEqual(sum(is_turn(house, stand, deed) for stand, deed in zip(stands, play)), turns)
    for stand, deed in zip(stands, play):
        test.assertIn(deed, deeds_at(house, stand, acting))


class WayToTest(unittest.TestCase):
    def test_to_the_first_node(self):
        self.assertEqual(way_to(market(), BOTH, first_stand(market())), [])

    def test_to_all_nodes(self):
        check = 0
        for seed in range(60):
            house = random_house(seed, 3, 2, 3)
            for acting in groups(house):
                for node, turns in turns_to(house, acting)[:12]:
                    check_way(self, house, acting, node, turns)
                    check += turns
        self.assertGreater(check, 300)


if __name__ == "__main__":
    unittest.main()
