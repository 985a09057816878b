import unittest

from letinside.kinds import are_names, is_deed, is_integer, is_name, is_wish
from tests.samples import junk, market, shop


class Kinds(unittest.TestCase):
    def check(self, tell, right, wrong):
        for thing in right:
            self.assertIs(tell(thing), True, repr(thing))
        for thing in wrong:
            self.assertIs(tell(thing), False, repr(thing))

    def test_is_integer(self):
        self.check(is_integer, [0, 1, -1, 64, 10 ** 39, -10 ** 39],
                   [True, False, None, "", "1", [1], (1,), {1: 1}, [], (), {}, shop(), market()])

    def test_is_name(self):
        self.check(is_name, ["a", "z", "ann", "abcdefgh", "zzzzzzzz"],
                   ["", "abcdefghi", "A", "aB", "a1", "a b", " a", "a ", "a\n", "\na", "`", "{", "-", "?", "+given",
                    "a-b", None, True, 0, 1, ["a"], ("a",), {"a": "a"}, [], (), {}, shop(), market()])

    def test_are_names(self):
        self.check(are_names, [[], (), ["a"], ("a",), ["b", "a"], ("ann", "bob", "cup"), ["call", "abcdefgh"]],
                   ["", "a", "abc", ["a", "a"], ("a", "b", "a"), [""], ["a", ""], ["a", 1], ["a", True], ("A",),
                    ["abcdefghi"], [["a"]], [("a",)], [["a"], ["a"]], [{}], {"a": 1}, {}, None, True, 0, [None],
                    shop(), [shop()]])

    def test_is_wish(self):
        self.check(is_wish, [(("a", "b"),), (("a", "a"),), (("a", "b"), ("a", "c")), (("a", "z"), ("b", "a")),
                             (("a", "a"), ("b", "b"), ("c", "c"), ("d", "d"))],
                   [(), [], [("a", "b")], (["a", "b"],), ("a", "b"), (("a", "b"), ("a", "b")),
                    (("a", "c"), ("a", "b")), (("b", "a"), ("a", "z")), (("a",),), (("a", "b", "c"),), (("a", ""),),
                    (("", "a"),), (("a", "b"), ("b", "c"), ("a", "d")), (("a", True),), (("a", 1),), ((),), ("ab",),
                    (("a", "b"), ["a", "c"]), (("a", "b"), None), None, True, 1, "", {}, {("a", "b"): 1},
                    (("A", "b"),), (("a", "abcdefghi"),), shop(), (shop(),)])

    def test_is_deed(self):
        self.check(is_deed, [("call", "a", "b", "c"), ("call", "a", "b", ""), ("call", "a", "a", "a"),
                             ("hand", "a", "b", "c"), ("hand", "a", "b", "a"), ("hand", "a", "b", "b"),
                             ("throw", "a"), ("throw", "abcdefgh"), ("call", "call", "hand", "throw")],
                   [("hand", "a", "a", "b"), ("hand", "a", "b", ""), ("hand", "", "b", "c"), ("hand", "a", "", "c"),
                    ("call", "", "b", "c"), ("call", "a", "", "c"), ("throw", ""), ("throw", "a", ""), ("throw",),
                    ("throw", "a", "b", "c"), ("call", "a", "b"), ("call", "a", "b", "c", "d"), ("hand", "a", "b"),
                    ("hand", "a", "b", "c", "d"), ["call", "a", "b", "c"], ["throw", "a"], ("Call", "a", "b", "c"),
                    ("give", "a", "b", "c"), ("", "a", "b", "c"), (None, "a", "b", "c"), (["call"], "a", "b", "c"),
                    ("call", "a", "b", None), ("call", "a", "b", "?"), ("call", "a", "b", "-"), ("call", 1, "b", "c"),
                    ("call", "a", ["b"], "c"), ("call", "a", "b", ["c"]), ("call", "a", "b", []), ("throw", None),
                    ("throw", True), ("throw", ["a"]), ("throw", "A"), ("hand", "a", "b", 0), ("step",), (), [], None,
                    "call", "throw", True, 0, {}, {"call": "a"}, shop(), (shop(), "a"), ("call", "a", "b", shop())])

    def test_any_value_is_told_as_a_truth(self):
        for tell in [is_integer, is_name, are_names, is_wish, is_deed]:
            for thing in junk():
                self.assertIn(tell(thing), [True, False])
                self.assertIsInstance(tell(thing), bool)

    def test_nothing_is_changed(self):
        row = ["b", "a"]
        are_names(row)
        self.assertEqual(row, ["b", "a"])


if __name__ == "__main__":
    unittest.main()
