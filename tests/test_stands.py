import unittest

from letinside.gates import Gate
from letinside.houses import House
from letinside.stands import first_stand, has, is_stand, names_held, within
from tests.samples import junk, market, market_in_other_order, otherwise, plain_first, random_house

BEGIN = (((0, ""), (0, "")), (("ann", ("ann", "buy", "put")), ("bob", ("bob", "get"))))


class FirstStandTest(unittest.TestCase):
    def test_of_the_market(self):
        self.assertEqual(first_stand(market()), BEGIN)
        self.assertEqual(first_stand(market_in_other_order()), BEGIN)

    def test_of_a_house_with_nothing(self):
        self.assertEqual(first_stand(House([], [], [], [])), ((), ()))
        self.assertEqual(first_stand(House(["bob", "ann"], ["cup"], [], [])),
                         ((), (("ann", ("ann",)), ("bob", ("bob",)))))

    def test_of_other_houses(self):
        for seed in range(40):
            house = random_house(seed)
            self.assertEqual(first_stand(house), plain_first(house))
            self.assertIs(is_stand(house, first_stand(house)), True)


class IsStandTest(unittest.TestCase):
    def setUp(self):
        self.house = House(["bob", "ann"], ["cup"], [Gate(3, ["da"], [], []), Gate(1, ["db"], [], [])], [])

    def check(self, gates, held, expected):
        self.assertIs(is_stand(self.house, (gates, held)), expected, repr((gates, held)))

    def test_stands(self):
        held = (("ann", ("ann",)), ("bob", ("ann", "bob", "cup", "da", "db")))
        for kept in ["", "ann", "bob", "cup", "da", "db"]:
            for state in [0, 1, 2]:
                self.check(((state, kept), (0, "")), held, True)
        self.assertIs(is_stand(House([], [], [], []), ((), ())), True)

    def test_wrong_gates(self):
        held = (("ann", ("ann",)), ("bob", ("bob",)))
        self.check(((0, ""), (0, "")), held, True)
        for part in [(3, ""), (-1, ""), (True, ""), (False, ""), ("0", ""), (None, ""), (0, None), (0, "zoe"),
                     (0, "-"), (0, ["cup"]), (0, 0), (0,), (0, "", ""), [0, ""], (), None, 0, "", (10 ** 39, "")]:
            self.check((part, (0, "")), held, False)
        self.check(((0, ""), (1, "")), held, False)
        for gates in [(), ((0, ""),), ((0, ""),) * 3, [(0, ""), (0, "")], None, "", 0, {}]:
            self.check(gates, held, False)

    def test_wrong_names_held(self):
        gates = ((0, ""), (0, ""))
        for names in [("cup",), (), ("bob", "ann"), ("bob", "bob"), ("bob", "bob", "cup"), ["bob"], "bob", None,
                      ("bob", "zoe"), ("", "bob"), ("bob", None), ("bob", True), (["bob"],), {"bob": 1}, ("bob", "Z"),
                      ("cup", "bob"), ("ann", "cup")]:
            self.check(gates, (("ann", ("ann",)), ("bob", names)), False)

    def test_wrong_guests(self):
        gates = ((0, ""), (0, ""))
        ann, bob, cup = ("ann", ("ann",)), ("bob", ("bob",)), ("cup", ("cup",))
        self.check(gates, (ann, bob), True)
        for held in [(), (ann,), (bob,), (bob, ann), (ann, ann), (ann, bob, bob), (ann, bob, cup), (ann, cup),
                     [ann, bob], (ann, list(bob)), (ann, ("bob",)), (ann, ("bob", ("bob",), ())), (ann, None), None, {},
                     {"ann": ("ann",), "bob": ("bob",)}, (ann, (["bob"], ("bob",))), (ann, (None, (None,)))]:
            self.check(gates, held, False)

    def test_one_thing_otherwise(self):
        house = market()
        stand = (((1, ""), (0, "cup")), (("ann", ("ann", "buy", "cup")), ("bob", ("bob", "get"))))
        self.assertIs(is_stand(house, stand), True)
        right = []
        for other in otherwise(stand):
            self.assertIsInstance(is_stand(house, other), bool)
            if is_stand(house, other):
                right.append(other)
        for other in right:
            self.assertIs(type(other[0][0][0]), int)
            self.assertEqual([guest for guest, _ in other[1]], ["ann", "bob"])
            for guest, names in other[1]:
                self.assertIn(guest, names)
                self.assertEqual(names, tuple(sorted(set(names) & set(house.objects()))))
            for _, kept in other[0]:
                self.assertIn(kept, ["", *house.objects()])
        # Kept may go, and each name that is no guest's own.
        self.assertIn((((1, ""), (0, "")), stand[1]), right)
        self.assertIn((stand[0], (("ann", ("ann", "cup")), ("bob", ("bob", "get")))), right)

    def test_any_value(self):
        for thing in junk():
            self.assertIs(is_stand(market(), thing), False)
            self.assertIs(is_stand(market(), (thing, BEGIN[1])), False)
            self.assertIs(is_stand(market(), (BEGIN[0], thing)), False)
        for thing in [list(BEGIN), BEGIN + ((),), BEGIN[:1], (BEGIN,), (BEGIN[1], BEGIN[0])]:
            self.assertIs(is_stand(market(), thing), False)


class AskedTest(unittest.TestCase):
    def test_names_held(self):
        self.assertEqual(names_held(BEGIN, "ann"), ["ann", "buy", "put"])
        names = names_held(BEGIN, "bob")
        self.assertEqual(names, ["bob", "get"])
        names.append("cup")
        self.assertEqual(names_held(BEGIN, "bob"), ["bob", "get"])

    def test_has(self):
        for wish in [(("ann", "buy"),), (("ann", "ann"),), (("ann", "put"), ("bob", "get"))]:
            self.assertIs(has(BEGIN, wish), True)
        for wish in [(("bob", "buy"),), (("ann", "put"), ("bob", "put")), (("ann", "cup"), ("bob", "get"))]:
            self.assertIs(has(BEGIN, wish), False)

    def test_within(self):
        more = (BEGIN[0], (("ann", ("ann", "buy", "cup", "put")), ("bob", ("ann", "bob", "get"))))
        self.assertIs(within(BEGIN, BEGIN), True)
        self.assertIs(within(BEGIN, more), True)
        self.assertIs(within(more, BEGIN), False)
        one = (BEGIN[0], (("ann", ("ann", "cup")), ("bob", ("bob",))))
        other = (BEGIN[0], (("ann", ("ann",)), ("bob", ("bob", "cup"))))
        self.assertIs(within(one, other), False)
        self.assertIs(within(other, one), False)

    def test_within_asks_for_the_same_gates(self):
        for gates in [((1, ""), (0, "")), ((0, ""), (0, "cup")), ((0, "cup"), (0, ""))]:
            self.assertIs(within(BEGIN, (gates, BEGIN[1])), False)
            self.assertIs(within((gates, BEGIN[1]), BEGIN), False)


if __name__ == "__main__":
    unittest.main()
