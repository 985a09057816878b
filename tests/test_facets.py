import unittest

from letinside.errors import NotFirst, Twice
from letinside.facets import faceted
from letinside.gates import Gate
from letinside.houses import House
from letinside.reach import can
from tests.samples import market, market_in_other_order, random_house, shuffled

WORDS = ["none", "bare", "known", "once"]


def plain_faceted(house, guest, door, word, name):
    """The House with a facet, from the words of the document."""
    gates = []
    for gate in house.gates():
        if door in gate.doors():
            many = gate.states
            rules = list(gate.rules())
            own = [list(rule[1:]) for rule in rules if rule[0] == door]
            if word == "once":
                rules = rules + [(r[0], r[1] + many, r[2], r[3] + many, r[4], r[5]) for r in rules]
                facet = [(name, r[0], r[1], r[2] + many, r[3], r[4]) for r in own]
            else:
                lets = {"none": [], "bare": [""], "known": [""] + gate.closet()}[word]
                facet = [(name, *r) for r in own if r[1] in lets]
            gate = Gate(many * 2 if word == "once" else many, gate.doors() + [name], gate.closet(), rules + facet)
        gates.append(gate)
    first = [pair for pair in house.first() if pair != (guest, door)] + [(guest, name)]
    return House(house.guests(), house.things(), gates, first)


def till():
    """A house with a gate of two states that keeps, and rules of all kinds."""
    rules = [("pay", 0, "", 1, False, ("cup",)), ("pay", 0, "cup", 1, True, ("key",)), ("pay", 0, "?", 0, True,
                                                                                        ("+kept", "+given")),
             ("pay", 1, "key", 0, False, ()), ("see", 0, "", 0, False, ("+kept",)), ("see", 1, "?", 1, True, ()),
             ("see", 1, "", 0, False, ("cup", "+kept"))]
    gates = [Gate(2, ["pay", "see"], ["cup", "key"], rules), Gate(1, ["other"], ["pay"], [("other", 0, "pay", 0, False,
                                                                                           ())])]
    return House(["ann", "bob"], ["cup", "key"], gates, [("ann", "pay"), ("bob", "pay"), ("bob", "see"), ("ann",
                                                                                                          "cup")])


class FacetedTest(unittest.TestCase):
    def gate(self, word):
        return faceted(till(), "ann", "pay", word, "slip").gates()[0]

    def test_none(self):
        self.assertEqual(self.gate("none"), Gate(2, ["pay", "see", "slip"], ["cup", "key"], till().gates()[0].rules()))

    def test_bare(self):
        rules = till().gates()[0].rules() + [("slip", 0, "", 1, False, ("cup",))]
        self.assertEqual(self.gate("bare"), Gate(2, ["pay", "see", "slip"], ["cup", "key"], rules))

    def test_known(self):
        rules = till().gates()[0].rules()
        rules += [("slip", 0, "", 1, False, ("cup",)), ("slip", 0, "cup", 1, True, ("key",)), ("slip", 1, "key", 0,
                                                                                               False, ())]
        self.assertEqual(self.gate("known"), Gate(2, ["pay", "see", "slip"], ["cup", "key"], rules))

    def test_once(self):
        gate = self.gate("once")
        self.assertEqual((gate.states, gate.doors(), gate.closet()), (4, ["pay", "see", "slip"], ["cup", "key"]))
        self.assertEqual([rule for rule in gate.rules() if rule[0] == "slip"],
                         [("slip", 0, "", 3, False, ("cup",)), ("slip", 0, "?", 2, True, ("+kept", "+given")),
                          ("slip", 0, "cup", 3, True, ("key",)), ("slip", 1, "key", 2, False, ())])
        self.assertEqual([rule for rule in gate.rules() if rule[0] == "pay"],
                         [("pay", 0, "", 1, False, ("cup",)), ("pay", 0, "?", 0, True, ("+kept", "+given")),
                          ("pay", 0, "cup", 1, True, ("key",)), ("pay", 1, "key", 0, False, ()),
                          ("pay", 2, "", 3, False, ("cup",)), ("pay", 2, "?", 2, True, ("+kept", "+given")),
                          ("pay", 2, "cup", 3, True, ("key",)), ("pay", 3, "key", 2, False, ())])
        self.assertEqual(len([rule for rule in gate.rules() if rule[0] == "see"]), 6)
        self.assertEqual(gate.rule_for("see", 3, ""), ("see", 3, "", 2, False, ("cup", "+kept")))

    def test_once_by_calls(self):
        gate = self.gate("once")
        self.assertEqual(gate.call(0, "", "slip", "bob"), (2, "bob", ["bob"]))
        self.assertEqual(gate.call(2, "bob", "slip", "bob"), (2, "bob", []))
        self.assertEqual(gate.call(1, "", "slip", ""), (1, "", []))
        self.assertEqual(gate.call(2, "bob", "pay", ""), (3, "bob", ["cup"]))
        self.assertEqual(gate.call(3, "bob", "see", ""), (2, "bob", ["cup", "bob"]))

    def test_the_first_pair_is_exchanged(self):
        for word in WORDS:
            house = faceted(till(), "ann", "pay", word, "slip")
            self.assertEqual(house.first(), [("ann", "cup"), ("ann", "slip"), ("bob", "pay"), ("bob", "see")])
            self.assertEqual(house.gates()[1], till().gates()[1])
            self.assertEqual((house.guests(), house.things()), (["ann", "bob"], ["cup", "key"]))
            self.assertEqual(house.doors(), ["other", "pay", "see", "slip"])

    def test_of_other_houses(self):
        many = 0
        for seed in range(150):
            house = random_house(seed)
            for guest, door in [pair for pair in house.first() if pair[1] in house.doors()]:
                many += 1
                for word in WORDS:
                    self.assertEqual(faceted(house, guest, door, word, "zed"), plain_faceted(house, guest, door, word,
                                                                                             "zed"))
        self.assertGreater(many, 100)

    def test_a_facet_of_a_facet(self):
        house = faceted(faceted(till(), "ann", "pay", "once", "slip"), "ann", "slip", "bare", "note")
        self.assertEqual([rule for rule in house.gates()[0].rules() if rule[0] == "note"], [("note", 0, "", 3, False,
                                                                                             ("cup",))])
        twice = faceted(faceted(till(), "ann", "pay", "once", "slip"), "bob", "pay", "once", "note")
        self.assertEqual(twice.gates()[0].states, 8)
        self.assertEqual(twice.gates()[0].rule_for("note", 3, "key"), ("note", 3, "key", 6, False, ()))
        self.assertEqual(twice.gates()[0].rule_for("slip", 5, "key"), ("slip", 5, "key", 6, False, ()))

    def test_not_first(self):
        house = till().with_first(till().first() + [("bob", "ann")])
        for guest, door in [("ann", "see"), ("ann", "cup"), ("bob", "ann"), ("bob", "cup"), ("ann", "ann"), ("ann",
                                                                                                             "other"),
                            ("ann", "zed")]:
            for name in ["slip", "pay", "ann"]:
                with self.assertRaises(NotFirst) as caught:
                    faceted(house, guest, door, "bare", name)
                self.assertEqual(caught.exception.pair, (guest, door))

    def test_twice(self):
        for name in ["ann", "bob", "cup", "key", "pay", "see", "other"]:
            for word in WORDS:
                with self.assertRaises(Twice) as caught:
                    faceted(till(), "ann", "pay", word, name)
                self.assertEqual(caught.exception.name, name)

    def test_of_the_document(self):
        self.assertEqual(faceted(market(), "ann", "buy", "once", "shopper").gates()[0].rules()[-1],
                         ("shopper", 0, "", 3, False, ("cup",)))

    def test_less_can_come(self):
        wish = (("bob", "cup"),)
        both = ("ann", "bob")
        self.assertEqual([can(faceted(market(), "ann", "buy", word, "slip"), both, wish) for word in WORDS],
                         [False, True, True, True])
        self.assertEqual([can(faceted(market(), "ann", "put", word, "slip"), both, wish) for word in WORDS],
                         [False, False, False, True])

    def test_arguments_stay(self):
        house = market()
        faceted(house, "ann", "buy", "once", "slip")
        self.assertEqual(house, market_in_other_order())
        self.assertEqual(faceted(market_in_other_order(), "ann", "put", "known", "slip"),
                         faceted(house, "ann", "put", "known", "slip"))
        for seed in range(20):
            house = random_house(seed)
            for guest, door in [pair for pair in house.first() if pair[1] in house.doors()]:
                for word in WORDS:
                    self.assertEqual(faceted(house, guest, door, word, "zed"),
                                     faceted(shuffled(house, seed), guest, door, word, "zed"))


if __name__ == "__main__":
    unittest.main()
