import unittest

from letinside.codes import depth, is_case, is_code, letter, ran, size
from tests.coding import DEPUTY, parts_of, plain_cases, plain_is_code, plain_letter, plain_ran, random_code, words_in
from tests.coding import lengths_of
from tests.samples import junk, nest, otherwise

END = ("end", ())
SMALL = [END, ("end", ("a",)), ("end", ("a", "a")), ("same", "a", "b", END, END), ("same", "a", "a", END, ("end", ("a",
                                                                                                                   ))),
         ("call", "a", "", ("x",), END, END), ("call", "a", "b", ("x", "y"), ("end", ("y", "a", "x")), ("end", ("b",))),
         ("call", "a", "a", ("x",), ("call", "x", "x", ("y",), ("same", "x", "y", ("end", ("x",)), END), END), END),
         ("call", "abcdefgh", "", ("z",), ("same", "z", "abcdefgh", END, END), ("call", "b", "c", ("y",), END, END))]


class IsCodeTest(unittest.TestCase):
    def test_codes(self):
        for code in SMALL + [DEPUTY] + [random_code(seed, sames=3, calls=4) for seed in range(60)]:
            self.assertIs(is_code(code), True, repr(code))
            self.assertIs(plain_is_code(code), True)

    def test_where_a_word_of_gets_stands(self):
        for code in [
                ("call", "a", "", ("x", "x"), END, END), ("call", "x", "", ("x",), END, END),
                ("call", "a", "x", ("x",), END, END), ("call", "a", "", ("x",), END, ("end", ("x",))),
                ("call", "a", "", ("x",), ("call", "a", "", ("x",), END, END), END),
                ("call", "a", "", ("x",), END, ("call", "a", "", ("x",), END, END)),
                ("call", "a", "", ("x",), ("call", "a", "", ("y",), END, ("end", ("y",))), END),
                ("same", "a", "x", ("call", "a", "", ("x",), END, END), END),
                ("same", "a", "b", ("call", "a", "", ("x",), END, END), ("end", ("x",))),
                ("same", "a", "b", ("call", "a", "", ("x",), END, END), ("call", "a", "", ("x",), END, END)),
                ("call", "a", "", ("x",), ("end", ("x",)), ("same", "x", "a", END, END)),
                ("call", "b", "", ("y",), ("end", ("x",)), ("call", "a", "", ("x",), END, END))]:
            self.assertIs(is_code(code), False, repr(code))
        self.assertIs(is_code(("call", "a", "", ("x",), ("call", "a", "x", ("y",), ("end", ("x", "y")), ("end", ("x",
                                                                                                                 ))),
                               END)), True)

    def test_no_codes(self):
        for thing in [("end",), ("end", []), ["end", ()], ("end", ("A",)), ("end", ("",)), ("end", (), ()), ("end",
                                                                                                             "ab"),
                      ("end", None), ("End", ()), (END,), ("call", "a", "", (), END, END), ("call", "a", "", ["x"], END,
                                                                                            END),
                      ("call", "", "", ("x",), END, END), ("call", "a", None, ("x",), END, END), ("call", "a", "", "x",
                                                                                                  END, END),
                      ("call", "a", "", ("x",), END), ("call", "a", "", ("x",), END, END, END), ("same", "a", "", END,
                                                                                                 END),
                      ("same", "", "a", END, END), ("same", "a", "b", END), ("same", "a", "b", END, None), ("same", "a",
                                                                                                            "b"),
                      ("same", "a", "b", ["end", ()], END), ("call", "a", "", ("x",), END, ("end", ("abcdefghi",))),
                      ("call", "a", "", ("+given",), END, END), ("call", "a", "?", ("x",), END, END),
                      ("same", "a", "b", END, END, END), ("loop", "a", "b", END, END), ("call", "a", "", ("x", ""), END,
                                                                                        END)]:
            self.assertIs(is_code(thing), False, repr(thing))

    def test_with_one_thing_otherwise(self):
        right = 0
        for code in SMALL + [DEPUTY] + [random_code(seed) for seed in range(20)]:
            for thing in otherwise(code):
                self.assertIs(is_code(thing), plain_is_code(thing), repr(thing))
                right += plain_is_code(thing)
        self.assertGreater(right, 100)

    def test_any_value(self):
        for thing in junk():
            self.assertIs(is_code(thing), False)
            for value in [("end", thing), ("end", (thing,)), (thing, ()), ("same", thing, "a", END, END),
                          ("same", "a", "b", thing, END), ("same", "a", "b", END, thing), ("call", thing, "", ("x",),
                                                                                           END, END),
                          ("call", "a", thing, ("x",), END, END), ("call", "a", "", thing, END, END),
                          ("call", "a", "", (thing,), END, END), ("call", "a", "", ("x",), thing, END)]:
                self.assertIs(is_code(value), plain_is_code(value), repr(value)[:200])
        self.assertIs(is_code(nest(18, lambda thing: ("same", "a", "b", END, thing or END))), True)


class MeasureTest(unittest.TestCase):
    def test_letter(self):
        self.assertEqual(letter(END), [])
        self.assertEqual(letter(("end", ("b", "a", "b"))), ["a", "b"])
        self.assertEqual(letter(DEPUTY), ["box", "mine", "out"])
        self.assertEqual(letter(("call", "c", "b", ("x", "y"), ("end", ("y", "a")), ("end", ("d",)))), ["a", "b", "c",
                                                                                                        "d"])
        self.assertEqual(letter(("call", "c", "", ("x",), ("call", "x", "x", ("y",), ("end", ("y", "x")), END), END)),
                         ["c"])

    def test_size_and_depth(self):
        for code, many, deep in [(END, 0, 0), (("end", ("a",)), 0, 0), (SMALL[3], 1, 1), (SMALL[5], 1, 1), (SMALL[7], 3,
                                                                                                            3),
                                 (SMALL[8], 3, 2), (DEPUTY, 3, 3),
                                 (("same", "a", "b", SMALL[5], ("same", "a", "b", SMALL[3], END)), 4, 3)]:
            self.assertEqual((size(code), depth(code)), (many, deep), repr(code))

    def test_of_other_codes(self):
        for seed in range(150):
            code = random_code(seed, ("wa", "wb", "wc", "wd"), 3, 3)
            self.assertEqual(letter(code), plain_letter(code))
            self.assertEqual(size(code), len([part for part in parts_of(code) if part[0] != "end"]))
            deepest = max([0] + [1 + depth(part) for part in parts_of(code)[1:]]) if code[0] != "end" else 0
            self.assertEqual(depth(code), deepest)
            for word in letter(code):
                self.assertIn(word, words_in(code))


class IsCaseTest(unittest.TestCase):
    def test_cases(self):
        for case in [({"box": 0, "mine": 7, "out": 3}, []), ({"mine": None, "box": None, "out": None}, [[]]),
                     ({"box": 0, "mine": 0, "out": 10 ** 39}, [[], [0, 1, 0], [10 ** 39], []])]:
            self.assertIs(is_case(DEPUTY, case), True)
        self.assertIs(is_case(END, ({}, [])), True)
        self.assertIs(is_case(END, ({}, [[1]])), True)

    def test_no_cases(self):
        things = {"box": 0, "mine": 7, "out": 3}
        for thing in [
                ({"box": 0, "mine": 7}, []), ({**things, "it": 1}, []), ({**things, "x": None}, []), ({}, []),
                ({**things, "out": True}, []), ({**things, "out": False}, []), ({**things, "out": -1}, []),
                ({**things, "out": "a"}, []), ({**things, "out": [0]}, []), ({"box": 0, "mine": 7, "outs": 3}, []),
                ({"box": 0, "mine": 7, 3: 3}, []), ({"box": 0, "mine": 7, None: 3}, []), (things, ()), (things, ([],)),
                (things, [()]), (things, [(1,)]), (things, [[True]]), (things, [[False]]), (things, [[-1]]), (things,
                                                                                                              [[None]]),
                (things, [[1], 1]), (things, [[[1]]]), (things, None), (things,), (things, [], []), [things, []],
                ([("box", 0), ("mine", 7), ("out", 3)], []), (None, []), (things, {}), (things, "")]:
            self.assertIs(is_case(DEPUTY, thing), False, repr(thing))
        self.assertIs(is_case(END, ({"a": 1}, [])), False)
        self.assertIs(is_case(END, ([], [])), False)

    def test_any_value(self):
        things = {"box": 0, "mine": 7, "out": 3}
        for thing in junk():
            self.assertIs(is_case(DEPUTY, thing), False)
            self.assertIs(is_case(DEPUTY, (thing, [])), False)
            self.assertIs(is_case(DEPUTY, (things, thing)), thing in ([], [[]]))
            self.assertIs(is_case(DEPUTY, (things, [thing])), thing in ([], list(range(2900))))
            worth = type(thing) is int and thing >= 0
            self.assertIs(is_case(DEPUTY, (things, [[0], [1, thing]])), worth)
            self.assertIs(is_case(DEPUTY, ({**things, "out": thing}, [])), worth or thing is None)

    def test_with_one_thing_otherwise(self):
        for thing in otherwise([[0, 1], [2], []]):
            right = type(thing) is list and all(type(row) is list for row in thing)
            right = right and all(type(part) is int and part >= 0 for row in thing for part in row)
            self.assertIs(is_case(DEPUTY, ({"box": 0, "mine": 7, "out": None}, thing)), right, repr(thing))


class RanTest(unittest.TestCase):
    def test_calls_in_order(self):
        code = ("call", "a", "b", ("x",), ("call", "x", "", ("y",), ("call", "c", "y", ("z",), ("end", ("z", "x")),
                                                                     END), END), END)
        things = {"a": 1, "b": 2, "c": 3}
        self.assertEqual(ran(code, (things, [[4], [5], [6]])), ([(1, 2), (4, None), (3, 5)], [6, 4]))
        self.assertEqual(ran(code, (things, [[4], [5], []])), ([(1, 2), (4, None), (3, 5)], []))
        self.assertEqual(ran(code, (things, [[4], [5]])), ([(1, 2), (4, None), (3, 5)], []))
        self.assertEqual(ran(code, (things, [[4]])), ([(1, 2), (4, None)], []))
        self.assertEqual(ran(code, (things, [])), ([(1, 2)], []))
        self.assertEqual(ran(code, ({"a": 1, "b": None, "c": 3}, [[4]])), ([(1, None), (4, None)], []))

    def test_fewer_and_more_are_told(self):
        code = ("call", "a", "", ("x", "y"), ("end", ("y", "x")), ("end", ("a",)))
        self.assertEqual(ran(code, ({"a": 9}, [[]])), ([(9, None)], [9]))
        self.assertEqual(ran(code, ({"a": 9}, [[1]])), ([(9, None)], [9]))
        self.assertEqual(ran(code, ({"a": 9}, [[1, 2]])), ([(9, None)], [2, 1]))
        self.assertEqual(ran(code, ({"a": 9}, [[1, 2, 3], [4]])), ([(9, None)], [2, 1]))

    def test_a_call_that_is_not_made_takes_no_answers(self):
        code = ("call", "a", "b", ("x",), ("end", ("x",)), ("call", "b", "a", ("y",), ("end", ("y", "a")), END))
        self.assertEqual(ran(code, ({"a": None, "b": 2}, [[5], [6]])), ([(2, None)], [5, None]))
        self.assertEqual(ran(code, ({"a": None, "b": None}, [[5], [6]])), ([], []))
        self.assertEqual(ran(code, ({"a": 1, "b": 2}, [[], [6]])), ([(1, 2), (2, 1)], [6, 1]))

    def test_sames(self):
        code = ("same", "a", "b", ("end", ("a",)), ("end", ("b", "b")))
        self.assertEqual(ran(code, ({"a": 3, "b": 3}, [])), ([], [3]))
        self.assertEqual(ran(code, ({"a": 3, "b": 4}, [])), ([], [4, 4]))
        self.assertEqual(ran(code, ({"a": None, "b": None}, [])), ([], [None, None]))
        self.assertEqual(ran(code, ({"a": 0, "b": None}, [])), ([], [None, None]))
        itself = ("same", "a", "a", ("end", ("a",)), END)
        self.assertEqual(ran(itself, ({"a": 0}, [])), ([], [0]))
        self.assertEqual(ran(itself, ({"a": None}, [])), ([], []))

    def test_of_other_codes(self):
        for seed in range(150):
            code = random_code(seed)
            for case in list(plain_cases(letter(code), lengths_of([code])))[::7]:
                self.assertIs(is_case(code, case), True)
                self.assertEqual(ran(code, case), plain_ran(code, *case))

    def test_arguments_stay_and_results_may_be_changed(self):
        case = ({"box": 0, "mine": 7, "out": 3}, [[7], [5]])
        calls, told = ran(DEPUTY, case)
        calls.clear()
        told.clear()
        self.assertEqual(case, ({"box": 0, "mine": 7, "out": 3}, [[7], [5]]))
        self.assertEqual(list(case[0]), ["box", "mine", "out"])
        self.assertEqual(ran(DEPUTY, case), ([(0, None), (3, 7)], [5]))
        self.assertIs(type(ran(DEPUTY, case)), tuple)
        letter(DEPUTY).clear()
        self.assertEqual(letter(DEPUTY), ["box", "mine", "out"])


if __name__ == "__main__":
    unittest.main()
