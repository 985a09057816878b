import unittest

from letinside.gates import Gate
from letinside.houses import House
from letinside.notation import show_code, show_deed, show_deeds, show_gate, show_house, show_stand, show_wish
from letinside.stands import first_stand
from tests.coding import DEPUTY
from tests.samples import market, market_in_other_order, post, random_house, shop, shuffled
from tests.test_facets import till


class GateTextTest(unittest.TestCase):
    def test_line_by_line(self):
        self.assertEqual(show_gate(post()),
                         "gate 1\ndoors get put\ncloset\nrule get 0 - 0 - +kept\nrule put 0 ? 0 keeps +kept\n")
        self.assertEqual(show_gate(shop()),
                         "gate 2\ndoors ask buy\ncloset gold\nrule ask 1 ? 1 - +given gold\nrule buy 0 - 1 - gold\n")
        self.assertEqual(show_gate(till().gates()[0]), "".join([
            "gate 2\n", "doors pay see\n", "closet cup key\n", "rule pay 0 - 1 - cup\n",
                                                                "rule pay 0 ? 0 keeps +kept +given\n",
            "rule pay 0 cup 1 keeps key\n", "rule pay 1 key 0 -\n", "rule see 0 - 0 - +kept\n",
                                                                "rule see 1 - 0 - cup +kept\n",
            "rule see 1 ? 1 keeps\n"]))

    def test_empty_lists(self):
        self.assertEqual(show_gate(Gate(1, ["a"], [], [])), "gate 1\ndoors a\ncloset\n")
        self.assertEqual(show_gate(Gate(64, ["a"], ["b"], [("a", 0, "b", 0, True, ())])),
                         "gate 64\ndoors a\ncloset b\nrule a 0 b 0 keeps\n")

    def test_numbers_of_more_than_one_digit_ascend_as_numbers(self):
        gate = Gate(64, ["a"], [], [("a", 10, "", 63, False, ()), ("a", 9, "", 12, False, ()), ("a", 63, "?", 0, True,
                                                                                                ())])
        self.assertEqual(show_gate(gate),
                         "gate 64\ndoors a\ncloset\nrule a 9 - 12 -\nrule a 10 - 63 -\nrule a 63 ? 0 keeps\n")

    def test_words_several_times(self):
        gate = Gate(1, ["a"], ["b"], [("a", 0, "?", 0, False, ("b", "+given", "b", "+kept", "+given"))])
        self.assertEqual(show_gate(gate).split("\n")[3], "rule a 0 ? 0 - b +given b +kept +given")


class HouseTextTest(unittest.TestCase):
    def test_line_by_line(self):
        self.assertEqual(show_house(market()), "".join([
            "guests ann bob\n", "things cup\n", "gate 2\n", "doors ask buy\n", "closet cup\n",
                                                        "rule ask 1 ? 1 - +given cup\n",
            "rule buy 0 - 1 - cup\n", "gate 1\n", "doors get put\n", "closet\n", "rule get 0 - 0 - +kept\n",
            "rule put 0 ? 0 keeps +kept\n", "first ann buy\n", "first ann put\n", "first bob get\n"]))

    def test_empty_lists(self):
        self.assertEqual(show_house(House([], [], [], [])), "guests\nthings\n")
        self.assertEqual(show_house(House(["b", "a"], [], [], [("b", "a"), ("a", "a")])),
                         "guests a b\nthings\nfirst b a\n")
        self.assertEqual(show_house(House([], ["d", "c"], [Gate(1, ["b"], [], [])], [])),
                         "guests\nthings c d\ngate 1\ndoors b\ncloset\n")

    def test_gates_in_their_order(self):
        gates = [Gate(2, ["b"], [], []), Gate(1, ["a"], [], [])]
        self.assertEqual(show_house(House([], [], gates, [])),
                         "guests\nthings\ngate 2\ndoors b\ncloset\ngate 1\ndoors a\ncloset\n")

    def test_equal_houses_in_whatever_order(self):
        self.assertEqual(show_house(market()), show_house(market_in_other_order()))
        for seed in range(40):
            house = random_house(seed)
            self.assertEqual(show_house(house), show_house(shuffled(house, seed)))
            self.assertEqual(show_house(house).count("\n"), 2 + len(house.first()) + sum(3 + len(gate.rules())
                                                                                         for gate in house.gates()))


class OtherTextTest(unittest.TestCase):
    def test_deeds(self):
        self.assertEqual(show_deed(("call", "ann", "buy", "")), "call ann buy -")
        self.assertEqual(show_deed(("call", "ann", "buy", "cup")), "call ann buy cup")
        self.assertEqual(show_deed(("hand", "ann", "bob", "cup")), "hand ann bob cup")
        self.assertEqual(show_deed(("throw", "buy")), "throw buy")
        self.assertEqual(show_deeds([]), "")
        self.assertEqual(show_deeds([("throw", "buy")]), "throw buy\n")
        self.assertEqual(show_deeds([("throw", "b"), ("call", "a", "b", ""), ("throw", "b")]),
                         "throw b\ncall a b -\nthrow b\n")

    def test_wishes(self):
        self.assertEqual(show_wish((("ann", "cup"),)), "ann cup")
        self.assertEqual(show_wish((("ann", "cup"), ("ann", "key"), ("bob", "cup"))), "ann cup, ann key, bob cup")

    def test_stands(self):
        self.assertEqual(show_stand(first_stand(market())), "at 0 -\nat 0 -\nheld ann ann buy put\nheld bob bob get\n")
        self.assertEqual(show_stand((((12, "cup"), (0, "")), (("ann", ("ann",)),))),
                         "at 12 cup\nat 0 -\nheld ann ann\n")
        self.assertEqual(show_stand(((), (("bob", ("ann", "bob")),))), "held bob ann bob\n")
        self.assertEqual(show_stand((((0, ""),), ())), "at 0 -\n")
        self.assertEqual(show_stand(((), ())), "")

    def test_codes(self):
        self.assertEqual(show_code(("end", ())), "end()")
        self.assertEqual(show_code(("end", ("a", "b", "a"))), "end(a b a)")
        self.assertEqual(show_code(("same", "a", "b", ("end", ()), ("end", ("a",)))), "same(a b ? end() : end(a))")
        self.assertEqual(show_code(("call", "a", "", ("x",), ("end", ("x",)), ("end", ()))),
                         "call(a -: x ? end(x) : end())")
        self.assertEqual(show_code(("call", "a", "b", ("y", "x"), ("end", ()), ("end", ()))),
                         "call(a b: y x ? end() : end())")
        self.assertEqual(show_code(DEPUTY),
                         "call(box -: it ? same(it mine ? call(out it: x ? end(x) : end()) : end(it)) : end())")

    def test_arguments_stay(self):
        deeds = [("throw", "b"), ("call", "a", "b", "")]
        show_deeds(deeds)
        self.assertEqual(deeds, [("throw", "b"), ("call", "a", "b", "")])


if __name__ == "__main__":
    unittest.main()
