import unittest

from letinside.errors import NoRule, Wrong
from letinside.gates import Gate
from tests.samples import junk, market, post, shop

RULES = [("buy", 0, "", 1, False, ("gold",)), ("ask", 1, "?", 1, False, ("+given", "gold"))]


def parts(gate):
    return (gate.states, gate.doors(), gate.closet(), gate.rules())


class MadeTest(unittest.TestCase):
    def test_told_back_ascending(self):
        for doors in [["buy", "ask"], ("buy", "ask"), ["ask", "buy"]]:
            for closet in [["gold", "coin"], ("coin", "gold")]:
                for rules in [RULES, tuple(RULES), RULES[::-1]]:
                    gate = Gate(2, doors, closet, rules)
                    self.assertEqual(parts(gate), (2, ["ask", "buy"], ["coin", "gold"], sorted(RULES)))

    def test_the_edges(self):
        self.assertEqual(parts(Gate(1, ["a"], [], [])), (1, ["a"], [], []))
        self.assertEqual(Gate(64, ("a",), (), [("a", 63, "", 63, False, ())]).rules(), [("a", 63, "", 63, False, ())])
        many = ["a" * many for many in range(1, 9)]
        self.assertEqual(Gate(1, many, many, []).closet(), many)

    def test_told_words_stay_in_their_order_and_as_often(self):
        rule = ("a", 0, "?", 0, True, ("cup", "+given", "cup", "+kept", "+given"))
        self.assertEqual(Gate(1, ["a"], ["cup"], [rule]).rules(), [rule])

    def test_arguments_are_copied(self):
        doors, closet, rules = ["buy", "ask"], ["gold"], list(RULES)
        gate = Gate(2, doors, closet, rules)
        self.assertEqual((doors, closet, rules), (["buy", "ask"], ["gold"], RULES))
        doors.append("sell")
        closet.clear()
        rules.pop()
        self.assertEqual(parts(gate), (2, ["ask", "buy"], ["gold"], sorted(RULES)))

    def test_what_is_returned_may_be_changed(self):
        gate = shop()
        gate.doors().append("x")
        gate.closet().clear()
        gate.rules().pop()
        gate.call(0, "", "buy", "")[2].append("x")
        self.assertEqual(parts(gate), (2, ["ask", "buy"], ["gold"], sorted(RULES)))
        self.assertEqual(gate.call(0, "", "buy", ""), (1, "", ["gold"]))

    def test_states_is_no_truth_and_cannot_be_set(self):
        self.assertIs(type(Gate(1, ["a"], [], []).states), int)
        with self.assertRaises(AttributeError):
            shop().states = 3


class WrongTest(unittest.TestCase):
    def wrong(self, place, *given):
        with self.assertRaises(Wrong) as caught:
            Gate(*given)
        self.assertEqual(caught.exception.place, place, repr(given))
        self.assertIs(type(caught.exception.place), int)

    def test_states(self):
        for states in [0, -1, 65, True, False, None, "2", [2], 10 ** 39]:
            self.wrong(0, states, ["a"], [], [])

    def test_doors(self):
        for doors in [[], (), ["a", "a"], ["A"], [""], "a", "ab", {"a": 1}, None, 1, [["a"]], ["abcdefghi"], ["a", 1]]:
            self.wrong(1, 1, doors, [], [])

    def test_closet(self):
        for closet in [["a", "a"], ["A"], [""], "a", "", {"a": 1}, {}, None, 1, [["a"]], ["+given"], ["?"]]:
            self.wrong(2, 1, ["a"], closet, [])

    def test_rules(self):
        for rules in [None, "", {}, 1, True, "rule", {("a", 0, "", 0, False, ()): 1}]:
            self.wrong(3, 1, ["a"], [], rules)

    def test_the_first_is_told(self):
        self.wrong(0, 0, [], None, None)
        self.wrong(1, 1, [], None, None)
        self.wrong(2, 1, ["a"], None, None)

    def test_any_values(self):
        fine = [2, ["buy", "ask"], ["gold"], RULES]
        for place in range(4):
            for thing in junk():
                given = fine[:place] + [thing] + fine[place + 1:]
                try:
                    Gate(*given)
                except Wrong as error:
                    self.assertIn(error.place, [place, 3])

    def test_each_condition_of_a_rule(self):
        fine = ("ask", 1, "?", 1, True, ("+given", "gold", "+kept"))
        Gate(2, ["ask"], ["gold"], [fine])
        wrong = {
            0: ["buy", "gold", "", "ASK", None, 0, ["ask"], ("ask",)],
            1: [2, -1, True, False, None, "1", [1], 10 ** 39],
            2: ["ask", "ann", None, 0, False, [""], ["gold"], ("?",), "+given", "-"],
            3: [2, -1, True, False, None, "1", [1]],
            4: [0, 1, None, "", "True", [True]],
            5: [["gold"], [], "gold", "", None, (None,), ("ask",), ("ann",), ("",), ("+",), ("given",), (["gold"],),
                ("gold", 1), {"gold": 1}, 0],
        }
        for place, things in wrong.items():
            for thing in things:
                self.wrong(3, 2, ["ask"], ["gold"], [fine[:place] + (thing,) + fine[place + 1:]])
        for rule in [fine[:5], fine + ((),), list(fine), (), None, "ask", {}, 1, shop()]:
            self.wrong(3, 2, ["ask"], ["gold"], [rule])

    def test_nothing_given_is_not_kept_nor_told(self):
        Gate(1, ["ask"], ["gold"], [("ask", 0, "", 0, False, ("gold", "+kept"))])
        self.wrong(3, 1, ["ask"], ["gold"], [("ask", 0, "", 0, True, ())])
        self.wrong(3, 1, ["ask"], ["gold"], [("ask", 0, "", 0, False, ("gold", "+given"))])

    def test_no_two_rules_of_one_key(self):
        self.wrong(3, 2, ["a"], [], [("a", 0, "", 0, False, ()), ("a", 0, "", 1, False, ())])
        self.wrong(3, 2, ["a"], [], [("a", 0, "?", 0, False, ()), ("a", 0, "?", 0, False, ())])
        Gate(2, ["a", "b"], ["c"], [("a", 0, "", 0, False, ()), ("a", 1, "", 0, False, ()), ("b", 0, "", 0, False, ()),
                                    ("a", 0, "?", 0, False, ()), ("a", 0, "c", 0, False, ())])


class AskedTest(unittest.TestCase):
    def test_kind_of(self):
        gate = Gate(1, ["ask"], ["gold", "ask"], [])
        self.assertEqual([gate.kind_of(given) for given in ["", "gold", "ask", "ann", "gol"]],
                         ["", "gold", "ask", "?", "?"])
        self.assertEqual(post().kind_of("put"), "?")

    def test_rule_for_keys(self):
        gate = shop()
        self.assertEqual(gate.rule_for("buy", 0, ""), RULES[0])
        self.assertEqual(gate.rule_for("ask", 1, "?"), RULES[1])
        for key in [("buy", 1, ""), ("buy", 0, "?"), ("ask", 0, "?"), ("ask", 1, ""), ("ask", 1, "gold"),
                    ("ask", 1, "ann"), ("sell", 0, ""), ("ask", 9, "?")]:
            self.assertIsNone(gate.rule_for(*key))

    def test_rule_for_any_values(self):
        gate = shop()
        self.assertIsNone(gate.rule_for("buy", False, ""))
        self.assertIsNone(gate.rule_for("ask", True, "?"))
        for thing in junk():
            if thing != "buy":
                self.assertIsNone(gate.rule_for(thing, 0, ""))
            if isinstance(thing, bool) or thing != 0:
                self.assertIsNone(gate.rule_for("buy", thing, ""))
            if thing != "":
                self.assertIsNone(gate.rule_for("buy", 0, thing))

    def test_call(self):
        gate = shop()
        self.assertEqual(gate.call(0, "", "buy", ""), (1, "", ["gold"]))
        self.assertEqual(gate.call(1, "", "ask", "ann"), (1, "", ["ann", "gold"]))
        for state, door, given in [(1, "buy", ""), (0, "buy", "ann"), (0, "ask", "ann"), (1, "ask", ""),
                                   (1, "ask", "gold")]:
            self.assertEqual(gate.call(state, "", door, given), (state, "", []))
            self.assertEqual(gate.call(state, "bob", door, given), (state, "bob", []))

    def test_a_name_of_the_closet_is_of_its_own_kind_alone(self):
        gate = Gate(3, ["ask"], ["cup", "key"], [("ask", 0, "cup", 1, True, ("key", "+given")),
                                                 ("ask", 0, "?", 2, False, ("+given",))])
        self.assertEqual(gate.call(0, "", "ask", "cup"), (1, "cup", ["key", "cup"]))
        self.assertEqual(gate.call(0, "pen", "ask", "ann"), (2, "pen", ["ann"]))
        self.assertEqual(gate.call(0, "pen", "ask", "key"), (0, "pen", []))

    def test_kept_and_given(self):
        gate = Gate(1, ["swap", "look"], ["cup"],
                    [("swap", 0, "?", 0, True, ("+kept", "cup", "+given", "+kept")),
                     ("look", 0, "?", 0, False, ("+given", "+kept")), ("look", 0, "", 0, False, ("+kept", "cup"))])
        self.assertEqual(gate.call(0, "", "swap", "ann"), (0, "ann", ["cup", "ann"]))
        self.assertEqual(gate.call(0, "bob", "swap", "ann"), (0, "ann", ["bob", "cup", "ann", "bob"]))
        self.assertEqual(gate.call(0, "bob", "swap", "bob"), (0, "bob", ["bob", "cup", "bob", "bob"]))
        self.assertEqual(gate.call(0, "bob", "look", "ann"), (0, "bob", ["ann", "bob"]))
        self.assertEqual(gate.call(0, "", "look", "ann"), (0, "", ["ann"]))
        self.assertEqual(gate.call(0, "", "look", ""), (0, "", ["cup"]))
        self.assertEqual(gate.call(0, "cup", "look", ""), (0, "cup", ["cup", "cup"]))


class ChangedTest(unittest.TestCase):
    def test_without_rule(self):
        gate = shop()
        less = gate.without_rule(("buy", 0, ""))
        self.assertEqual(parts(less), (2, ["ask", "buy"], ["gold"], [RULES[1]]))
        self.assertEqual(less.without_rule(("ask", 1, "?")).rules(), [])
        self.assertEqual(gate, shop())

    def test_without_rule_of_any_value(self):
        gate = shop()
        keys = [("buy", 1, ""), ("buy", 0, "?"), ["buy", 0, ""], ("buy", 0), ("buy", 0, "", 1), ("buy", False, ""),
                ("ask", True, "?"), RULES[0], ()]
        for key in keys + junk():
            with self.assertRaises(NoRule) as caught:
                gate.without_rule(key)
            self.assertIs(caught.exception.key, key)
        self.assertEqual(gate, shop())

    def test_with_rule(self):
        gate = shop()
        further = ("ask", 0, "gold", 1, True, ("+kept",))
        self.assertEqual(parts(gate.with_rule(further)), (2, ["ask", "buy"], ["gold"], sorted(RULES + [further])))
        instead = ("buy", 0, "", 0, False, ())
        self.assertEqual(parts(gate.with_rule(instead)), (2, ["ask", "buy"], ["gold"], [RULES[1], instead]))
        self.assertEqual(gate.with_rule(RULES[0]), gate)
        self.assertEqual(gate, shop())

    def test_with_rule_of_any_value(self):
        gate = shop()
        rules = [("sell", 0, "", 0, False, ()), ("buy", 2, "", 0, False, ()), ("buy", 0, "ann", 0, False, ()),
                 ("buy", 0, "", 2, False, ()), ("buy", 0, "", 0, True, ()), ("buy", 0, "", 0, 0, ()),
                 ("buy", 0, "", 0, False, ("+given",)), ("buy", False, "", 0, False, ()), list(RULES[0])]
        for rule in rules + junk():
            with self.assertRaises(Wrong) as caught:
                gate.with_rule(rule)
            self.assertEqual(caught.exception.place, 0)
        self.assertEqual(gate, shop())

    def test_renamed(self):
        gate = Gate(2, ["buy", "ask"], ["gold", "ask"],
                    [("buy", 0, "gold", 1, True, ("gold", "+given", "ask", "+kept")), ("ask", 1, "?", 0, False, ()),
                     ("ask", 1, "", 0, False, ("gold",))])
        swapped = gate.renamed({"buy": "ask", "ask": "buy", "gold": "cup", "ann": "bob"})
        self.assertEqual(parts(swapped),
                         (2, ["ask", "buy"], ["buy", "cup"],
                          [("ask", 0, "cup", 1, True, ("cup", "+given", "buy", "+kept")),
                           ("buy", 1, "", 0, False, ("cup",)), ("buy", 1, "?", 0, False, ())]))
        self.assertEqual(swapped.renamed({"buy": "ask", "ask": "buy", "cup": "gold"}), gate)
        self.assertEqual(gate.renamed({}), gate)
        self.assertEqual(gate.renamed({"zoe": "buy"}), gate)

    def test_renamed_exchanges_names_of_the_closet(self):
        gate = Gate(1, ["a"], ["cup", "key"], [("a", 0, "cup", 0, False, ("key",))])
        names = {"cup": "key", "key": "cup"}
        self.assertEqual(gate.renamed(names).rules(), [("a", 0, "key", 0, False, ("cup",))])
        self.assertEqual(names, {"cup": "key", "key": "cup"})


class EqualTest(unittest.TestCase):
    def test_equal_in_whatever_order(self):
        one = Gate(2, ["buy", "ask"], ["gold", "cup"], RULES)
        other = Gate(2, ("ask", "buy"), ("cup", "gold"), tuple(RULES[::-1]))
        self.assertIs(one == other, True)
        self.assertIs(one != other, False)

    def test_unlike(self):
        one = Gate(2, ["buy", "ask"], ["gold"], RULES)
        others = [Gate(3, ["buy", "ask"], ["gold"], RULES), Gate(2, ["buy", "ask", "sell"], ["gold"], RULES),
                  Gate(2, ["buy", "ask"], ["gold", "cup"], RULES), Gate(2, ["buy", "ask"], ["gold"], RULES[:1]),
                  Gate(2, ["buy", "ask"], ["gold"], [("buy", 0, "", 0, False, ("gold",)), RULES[1]]),
                  Gate(2, ["buy", "ask"], ["gold"], [RULES[0], ("ask", 1, "?", 1, False, ("gold", "+given"))]),
                  Gate(2, ["buy", "ask"], ["gold"], [RULES[0], ("ask", 1, "?", 1, True, ("+given", "gold"))])]
        for other in others:
            self.assertIs(one == other, False)
            self.assertIs(one != other, True)

    def test_equal_to_nothing_else(self):
        gate = shop()
        for thing in junk() + [parts(gate), list(parts(gate)), market()]:
            if not isinstance(thing, Gate):
                self.assertIs(gate == thing, False)
                self.assertIs(thing == gate, False)


if __name__ == "__main__":
    unittest.main()
