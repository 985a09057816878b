import itertools
import random
import time
import unittest

from letinside.codes import depth, is_case, is_code, letter, ran, size
from letinside.errors import Unlike
from letinside.needing import do_same, is_need_case, is_parting_case, need_case, needs, parting_case, plain
from tests.coding import DEPUTY, lengths_of, part_at, parts_of, places_of_sames, plain_cases, plain_letter, plain_needs
from tests.coding import plain_parts, plain_plain, plain_ran, random_code, with_part, words_in
from tests.samples import junk, otherwise

END = ("end", ())
A = ("end", ("a",))
B = ("end", ("b",))


def same(yes, no, one="a", other="b"):
    return ("same", one, other, yes, no)


def call(some, none, door="a", given="", gets=("x",)):
    return ("call", door, given, gets, some, none)


def other_words(code, chance):
    """The code with other words of gets, by which it does the same."""
    gets = [word for part in parts_of(code) if part[0] == "call" for word in part[3]]
    fresh = ["h" + chr(97 + at // 26) + chr(97 + at % 26) for at in range(len(gets))]
    chance.shuffle(fresh)
    return renamed(code, dict(zip(gets, fresh)))


def renamed(thing, table):
    """A nested tuple with other words."""
    return tuple(renamed(part, table) for part in thing) if isinstance(thing, tuple) else table.get(thing, thing)


def nearby(code, chance):
    """A code that is like this one but for one part or word."""
    ways = [way for way in places_of(code)]
    way = chance.choice(ways)
    part = part_at(code, way)
    words = plain_letter(code)
    new = [END, ("end", tuple(words[:1])), part_at(code, chance.choice(ways)), part]
    if part[0] != "end":
        new += [part[-1], part[-2]]
    if part[0] == "same":
        new += [part[:3] + (part[4], part[3]), ("same", part[2], part[1]) + part[3:]] * 2
    if part[0] == "call" and words:
        new += [part[:2] + (chance.choice(words + [""]),) + part[3:], part[:1] + (chance.choice(words),) + part[2:]] * 2
    if words:
        new += [("same", words[0], words[-1], part, part)]
    found = with_part(code, way, chance.choice(new))
    return found if is_code(found) else code


def places_of(code, way=()):
    """The places of all parts of a code."""
    found = [way]
    for at in {"end": (), "call": (4, 5), "same": (3, 4)}[code[0]]:
        found += places_of(code[at], way + (at,))
    return found


def two_codes(seed):
    """Two codes, which may do the same or not."""
    chance = random.Random(seed)
    code = random_code(seed, ("wa", "wb", "wc")[:chance.randint(1, 3)])
    other = other_words(code, chance) if seed % 3 == 0 else code
    for _ in range(chance.randint(0, 2)):
        other = nearby(other, chance)
    return (code, other) if seed % 5 else (code, plain_plain(other))


class DoSameTest(unittest.TestCase):
    def check(self, one, other, expected):
        self.assertIs(do_same(one, other), expected, (one, other))
        self.assertIs(do_same(other, one), expected)
        for mine, theirs in [(one, other), (other, one)]:
            case = parting_case(mine, theirs)
            if expected:
                self.assertIsNone(case)
            else:
                self.assertIs(is_case(mine, case), True)
                self.assertEqual(list(case[0]), letter(mine))
                self.assertNotEqual(plain_ran(mine, *case), plain_ran(theirs, *case))
                self.assertIs(is_parting_case(mine, theirs, case), True)
                self.assertIs(is_parting_case(theirs, mine, case), True)

    def test_which_do_the_same(self):
        self.check(END, END, True)
        self.check(A, A, True)
        self.check(DEPUTY, DEPUTY, True)
        self.check(call(("end", ("x",)), A), call(("end", ("y",)), A, gets=("y",)), True)
        self.check(same(A, B), same(B, B), True)
        self.check(same(("end", ("a", "b")), ("end", ("b", "b"))), same(("end", ("b", "b")), ("end", ("b", "b")), "b",
                                                                        "a"), True)
        self.check(same(A, END), same(B, END), True)
        self.check(same(END, A), same(END, B), False)
        self.check(same(A, A, "a", "a"), A, True)
        self.check(same(A, END, "a", "a"), A, False)
        self.check(same(A, ("end", ("a",)), "a", "a"), same(END, A, "a", "a"), False)
        self.check(same(same(A, B), B, "b", "a"), same(A, B), True)

    def test_which_do_not(self):
        self.check(A, ("end", ("a", "a")), False)
        self.check(("end", ("a", "b")), ("end", ("b", "a")), False)
        self.check(call(A, A), A, False)
        self.check(call(A, END), call(A, END, gets=("x", "y")), False)
        self.check(call(END, A, given="b"), call(END, A, given="a", gets=("y",), door="b"), False)
        self.check(call(END, END, given="a"), call(END, END), False)
        self.check(call(call(END, END, gets=("y",)), END), call(END, END), False)
        self.check(call(call(A, A, gets=("y",)), A), call(call(A, A, gets=("y",)), call(A, A, gets=("z",))), False)

    def test_what_is_told_is_the_same_as_a_word(self):
        code = call(same(A, B, "x", "b"), ("end", ("a", "b")))
        other = call(B, ("end", ("a", "b")))
        self.check(code, other, False)
        case = parting_case(code, other)
        self.assertEqual(case[0]["b"], case[1][0][0])
        two = call(same(A, END, "x", "y"), A, gets=("x", "y"))
        self.check(two, call(END, A, gets=("x", "y")), False)
        third = call(call(same(A, END, "x", "y"), A, gets=("y",)), A)
        self.check(third, call(call(END, A, gets=("y",)), A), False)

    def test_missing_words_part(self):
        one, other = same(A, ("end", ("a", "a")), "a", "a"), same(A, END, "a", "a")
        self.check(one, other, False)
        self.assertIsNone(parting_case(one, other)[0]["a"])
        self.check(call(END, ("end", ("a", "b")), "a", "b"), call(END, call(END, ("end", ("a", "b")), "a", "b", ("y",)),
                                                                  "a", "b"),
                   False)
        self.check(call(END, A, "a", "b"), call(END, END, "a", "b"), False)
        self.check(call(END, ("end", ("b",)), "b", "a"), call(END, call(END, ("end", ("b",)), "b", "a", ("y",)), "b",
                                                              "a"), False)

    def test_unlike_letters(self):
        for one, other in [(A, B), (END, A), (DEPUTY, END), (call(A, B), A)]:
            for ask in [lambda: do_same(one, other), lambda: parting_case(one, other),
                        lambda: is_parting_case(one, other, ({}, [])), lambda: is_parting_case(one, other, None)]:
                with self.assertRaises(Unlike):
                    ask()

    def test_all_small_codes(self):
        ends = [END, A, ("end", ("b",))]
        codes = ends + [same(yes, no, *words) for yes in ends for no in ends for words in [("a", "b"), ("b", "b")]]
        codes += [call(some, none, "a", given) for some in ends + [same(A, END, "x", "a"), ("end", ("x",
                                                                                                    ))] for none in ends
                  for given in ["", "b"]]
        lots = {}
        for code in codes:
            lots.setdefault(tuple(letter(code)), []).append(code)
        for words, lot in lots.items():
            for one, other in list(itertools.combinations(lot, 2))[::3]:
                self.check(one, other, not plain_parts(one, other, words))

    def test_other_codes(self):
        told = []
        for seed in range(400):
            one, other = two_codes(seed)
            if letter(one) == letter(other):
                told.append(not plain_parts(one, other, letter(one)))
                self.check(one, other, told[-1])
        self.assertGreater(told.count(True), 80)
        self.assertGreater(told.count(False), 80)

    def test_is_parting_case_of_any_value(self):
        code, other = same(END, A), same(END, B)
        case = parting_case(code, other)
        near = otherwise(case) + [(case[0], thing) for thing in junk()] + [(thing, []) for thing in junk()]
        for thing in junk() + near:
            right = is_case(code, thing) and plain_ran(code, *thing) != plain_ran(other, *thing)
            self.assertIs(is_parting_case(code, other, thing), right, repr(thing))
        for thing in [({"a": 1, "b": 2}, []), ({"a": None, "b": 2}, [[1]]), ({"a": 2, "b": None}, [[], []])]:
            self.assertIs(is_parting_case(code, other, thing), True)
        for thing in [({"a": 1, "b": 1}, []), ({"a": None, "b": None}, []), ({"a": 1}, []), ({"a": 1, "b": 2, "c": 3},
                                                                                             []),
                      ({"a": 1, "b": True}, []), ({"a": 1, "b": -1}, []), [{"a": 1, "b": 2}, []], ({"a": 1, "b": 2},
                                                                                                   ()),
                      ({"a": 1, "b": 2}, [(1,)]), ({"a": 1, "b": 2}, [[None]])]:
            self.assertIs(is_parting_case(code, other, thing), False, repr(thing))


class NeedsTest(unittest.TestCase):
    def check(self, code, expected):
        self.assertEqual(needs(code), expected, code)
        for word in letter(code):
            case = need_case(code, word)
            if word not in expected:
                self.assertIsNone(case)
            else:
                self.assertIs(is_case(code, case), True)
                self.assertEqual(list(case[0]), letter(code))
                self.assertIsNotNone(case[0][word])
                self.assertNotEqual(plain_ran(code, *case), plain_ran(code, {**case[0], word: None}, case[1]))
                self.assertIs(is_need_case(code, word, case), True)
                self.assertIs(is_need_case(code, word, ({**case[0], word: None}, case[1])), False)

    def test_which_are_needed(self):
        self.check(END, [])
        self.check(("end", ("b", "a")), ["a", "b"])
        self.check(DEPUTY, ["box", "mine", "out"])
        self.check(call(END, END, "b", "a"), ["a", "b"])
        self.check(same(END, END), [])
        self.check(same(same(END, A, "a", "a"), END, "c", "c"), ["a", "c"])
        self.check(same(same(END, END, "a", "a"), END, "c", "c"), [])
        self.check(same(A, A, "b", "c"), ["a"])

    def test_words_that_only_matter_together(self):
        self.check(same(END, ("end", ("c",))), ["a", "b", "c"])
        code = same(same(("end", ("c",)), END, "b", "c"), END)
        self.check(code, ["a", "b", "c"])
        case = need_case(code, "a")
        self.assertEqual(len(set(case[0].values())), 1)
        self.check(same(same(END, ("end", ("c",)), "b", "a"), END), [])

    def test_words_that_matter_by_what_is_told(self):
        code = call(same(("end", ("x",)), END, "x", "b"), END)
        self.check(code, ["a", "b"])
        case = need_case(code, "b")
        self.assertEqual(case[1][0][0], case[0]["b"])
        self.check(call(same(END, END, "x", "b"), END), ["a"])
        self.check(call(same(same(("end", ("x",)), END, "y", "b"), END, "x", "b"), END, gets=("x", "y")), ["a", "b"])
        self.check(call(same(same(END, ("end", ("x",)), "x", "c"), END, "c", "b"), END), ["a", "b", "c"])
        self.check(call(END, call(same(("end", ("y",)), END, "y", "b"), END, gets=("y",))), ["a", "b"])

    def test_a_word_behind_what_never_comes(self):
        self.check(same(same(("end", ("c",)), END), ("end", ("d",)), "a", "a"), ["a", "b", "c", "d"])
        self.check(same(END, same(("end", ("c",)), END)), [])
        self.check(same(END, same(END, ("end", ("c",)), "a", "a"), "a", "a"), ["a", "c"])
        self.check(same(END, same(("end", ("c",)), END, "a", "a"), "a", "a"), [])

    def test_calls_that_come_in_the_place_of_others(self):
        again = call(call(("end", ("x",)), END, "b", "", ("y",)), call(END, END, "b", "", ("z",)))
        self.check(again, ["a", "b"])
        self.check(call(END, END, "a", "a"), ["a"])

    def test_other_codes(self):
        idle = 0
        for seed in range(300):
            code = random_code(seed, ("wa", "wb", "wc", "wd")[:2 + seed % 3], 1 + seed % 2, 3 - seed % 2, 1)
            if seed % 2:
                code = emptied(code)
            expected = plain_needs(code)
            idle += len(letter(code)) - len(expected)
            self.check(code, expected)
        self.assertGreater(idle, 15)

    def test_needed_or_the_same_without(self):
        for seed in range(100):
            code = emptied(random_code(seed))
            for case in list(plain_cases(letter(code), lengths_of([code])))[::11]:
                for word in letter(code):
                    if word not in needs(code):
                        self.assertEqual(ran(code, case), ran(code, ({**case[0], word: None}, case[1])))

    def test_is_need_case_of_any_value(self):
        code = call(same(("end", ("x",)), END, "x", "b"), END)
        case = ({"a": 0, "b": 1}, [[1]])
        self.assertIs(is_need_case(code, "b", case), True)
        things = junk() + otherwise(case)
        for part in junk():
            things += [(case[0], part), (part, [[1]]), ({"a": 0, "b": part}, [[1]])]
        for thing in things:
            for word in "ab":
                right = is_case(code, thing) and thing[0][word] is not None
                right = right and plain_ran(code, *thing) != plain_ran(code, {**thing[0], word: None}, thing[1])
                self.assertIs(is_need_case(code, word, thing), right, repr(thing)[:200])


def emptied(code):
    """The code with most ends telling nothing."""
    chance = random.Random(len(repr(code)))
    for way in places_of(code):
        if part_at(code, way)[0] == "end" and chance.random() < 0.8:
            code = with_part(code, way, END)
    return code


class PlainTest(unittest.TestCase):
    def check(self, code, expected):
        self.assertEqual(plain(code), expected, code)
        self.assertEqual(plain(expected), expected)

    def test_a_same_that_never_matters(self):
        self.check(END, END)
        self.check(same(A, A), A)
        self.check(same(A, END), same(A, END))
        self.check(same(("end", ("b", "a")), ("end", ("b", "b"))), ("end", ("b", "b")))
        self.check(DEPUTY, DEPUTY)

    def test_what_is_the_same_may_be_told_for_each_other(self):
        self.check(same(A, B), B)
        self.check(same(A, B, "a", "c"), same(A, B, "a", "c"))
        self.check(same(call(END, END, "a", "b"), call(END, END, "b", "a", ("y",))), call(END, END, "b", "a", ("y",)))
        self.check(call(same(("end", ("x",)), ("end", ("b",)), "x", "b"), END), call(B, END))

    def test_one_that_matters_only_behind_a_call(self):
        code = call(same(A, END, "x", "b"), END)
        self.check(code, code)
        self.check(same(code, call(END, END, gets=("y",)), "a", "b"), same(code, call(END, END, gets=("y",)), "a", "b"))
        deeper = same(call(END, END), call(END, A, gets=("y",)), "b", "b")
        self.check(deeper, deeper)

    def test_within_a_same_of_the_same_words(self):
        self.check(same(same(A, END), A), A)
        self.check(same(("end", ("c",)), same(A, END)), same(("end", ("c",)), END))
        self.check(same(END, same(A, END, "b", "a")), END)
        kept = same(("end", ("c",)), same(A, END, "a", "a"))
        self.check(kept, kept)

    def test_those_within_come_first(self):
        # The outer one matters only as long as the inner one stands.
        inner = same(B, A, "a", "c")
        self.check(same(inner, A, "b", "c"), plain_plain(same(inner, A, "b", "c")))
        self.check(same(same(A, A, "c", "d"), A), A)

    def test_one_that_is_not_come_to(self):
        idle = same(END, same(same(A, B), END, "a", "b"))
        self.check(idle, END)
        self.check(call(same(END, same(A, END, "x", "b"), "x", "b"), END), call(END, END))

    def test_calls_with_a_missing_door(self):
        code = call(END, same(A, B, "a", "a"), "a", "b")
        self.check(code, plain_plain(code))

    def test_other_codes(self):
        less = 0
        for seed in range(400):
            code = random_code(seed, ("wa", "wb", "wc")[:1 + seed % 3], 1 + seed % 2, 3 - seed % 2)
            if seed % 3 == 0:
                code = emptied(code)
            expected = plain_plain(code)
            less += expected != code
            self.check(code, expected)
        self.assertGreater(less, 150)

    def test_it_does_the_same(self):
        for seed in range(150):
            code = random_code(seed)
            less = plain(code)
            self.assertIs(is_code(less), True)
            self.assertLessEqual(size(less), size(code))
            self.assertLessEqual(set(words_in(less)), set(words_in(code)))
            for things, answers in list(plain_cases(letter(code), lengths_of([code])))[::17]:
                fewer = {word: thing for word, thing in things.items() if word in letter(less)}
                self.assertEqual(ran(less, (fewer, answers)), ran(code, (things, answers)))


class BoundsTest(unittest.TestCase):
    def widest(self, seed):
        """A code of four calls and three sames on each way, and six words in its letter."""
        return self.grow(random.Random(seed), ["wa", "wb", "wc", "wd", "we", "wf"], ["call"] * 4 + ["same"] * 3, [0])

    def grow(self, chance, words, kinds, many):
        if not kinds:
            return ("end", tuple(chance.sample(words, 1)))
        kind = chance.choice(kinds)
        less = list(kinds)
        less.remove(kind)
        if kind == "same":
            return ("same", *chance.sample(words, 2), *[self.grow(chance, words, less, many) for _ in range(2)])
        many[0] += 2
        gets = tuple("g" + chr(97 + at // 26) + chr(97 + at % 26) for at in (many[0], many[0] + 1))
        return ("call", chance.choice(words), chance.choice(words), gets, self.grow(chance, words + list(gets), less,
                                                                                    many),
                self.grow(chance, words, less, many))

    def test_codes_at_the_bounds(self):
        began = time.monotonic()
        for seed in range(4):
            code = self.widest(seed)
            self.assertEqual((depth(code), size(code)), (7, 127))
            self.assertIs(is_code(code), True)
            less = plain(code)
            self.assertEqual(plain(less), less)
            if letter(less) == letter(code):
                self.assertIs(do_same(code, less), True)
            self.assertIs(do_same(code, other_words(code, random.Random(seed))), True)
            for word in letter(code):
                case = need_case(code, word)
                if case is not None:
                    self.assertIs(is_need_case(code, word, case), True)
            for way in places_of_sames(code)[::9]:
                other = with_part(code, way, part_at(code, way)[4])
                if letter(other) == letter(code):
                    case = parting_case(code, other)
                    self.assertIs(case is None or is_parting_case(code, other, case), True)
        self.assertLess(time.monotonic() - began, 60)

    def test_what_is_returned_may_be_changed(self):
        code = same(A, ("end", ("c",)))
        told = (needs(code), need_case(code, "a"), plain(code))
        needs(code).clear()
        case = need_case(code, "a")
        case[0].clear()
        case[1].append(1)
        self.assertEqual((needs(code), need_case(code, "a"), plain(code)), told)
        one, other = same(END, A), same(END, B)
        first = parting_case(one, other)
        parting_case(one, other)[0].clear()
        parting_case(one, other)[1].append([3])
        self.assertEqual(parting_case(one, other), first)


if __name__ == "__main__":
    unittest.main()
