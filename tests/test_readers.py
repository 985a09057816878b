import random
import re
import unittest

from letinside.errors import HouseError, NoText
from letinside.gates import Gate
from letinside.houses import House
from letinside.notation import show_code, show_deed, show_deeds, show_gate, show_house, show_stand, show_wish
from letinside.readers import read_code, read_deed, read_deeds, read_gate, read_house, read_stand, read_wish
from letinside.stands import first_stand
from tests.coding import DEPUTY, plain_is_code, random_code
from tests.samples import junk, market, plain_nodes, post, random_gate, random_house, shop
from tests.test_facets import till
from tests.test_reach import wishes

READERS = [read_gate, read_house, read_deed, read_deeds, read_wish, read_stand, read_code]
WIDE = House(["b", "ann"], ["cup", "key"], [Gate(12, ["z", "da"], ["cup", "da", "zed", "ann"], [
    ("z", 9, "", 10, False, ()), ("z", 10, "zed", 9, True, ("+kept", "cup", "cup")),
    ("da", 0, "?", 11, False, ("+given",))]),
    Gate(1, ["zed"], [], [])], [("b", "ann"), ("ann", "da"), ("b", "key"), ("ann", "zed")])


def by_lines(text):
    """The lines of a text with their line feeds, the last one perhaps without."""
    return re.findall(r"[^\n]*\n|[^\n]+", text)


def plain_gate_of(lines):
    """The Gate of lines, whose text need not be theirs, and the number of them, or None."""
    head = [line.split() for line in lines[:3]]
    many = 3
    rules = []
    while many < len(lines) and lines[many].startswith("rule"):
        _, door, state, kind, later, keeps, *told = lines[many].split()
        rules.append((door, int(state), kind.replace("-", ""), int(later), keeps == "keeps", tuple(told)))
        many += 1
    return (Gate(int(head[0][1]), head[1][1:], head[2][1:], rules), many)


def plain_read_gate(text):
    """The Gate with a text, or None."""
    try:
        gate, _ = plain_gate_of(by_lines(text))
        return gate if show_gate(gate) == text else None
    except (ValueError, IndexError):
        return None


def plain_read_house(text):
    """The House with a text, or None."""
    try:
        lines = by_lines(text)
        rest = lines[2:]
        gates = []
        while rest and rest[0].startswith("gate"):
            gate, many = plain_gate_of(rest)
            gates.append(gate)
            rest = rest[many:]
        house = House(lines[0].split()[1:], lines[1].split()[1:], gates, [tuple(line.split()[1:]) for line in rest])
        return house if show_house(house) == text else None
    except (ValueError, IndexError):
        return None


def plain_read_stand(text):
    """The stand with a text, or None."""
    if not re.fullmatch(r"(at (0|[1-9][0-9]{0,8}) (-|[a-z]{1,8})\n)*(held [a-z]{1,8}( [a-z]{1,8})+\n)*", text):
        return None
    rows = [line.split() for line in by_lines(text)]
    held = [(row[1], tuple(row[2:])) for row in rows if row[0] == "held"]
    for guest, names in held:
        if guest not in names or list(names) != sorted(set(names)):
            return None
    if [guest for guest, _ in held] != sorted({guest for guest, _ in held}):
        return None
    return (tuple((int(row[1]), row[2].replace("-", "")) for row in rows if row[0] == "at"), tuple(held))


def plain_read_deeds(text):
    """The list of deeds with a text, or None."""
    name = "[a-z]{1,8}"
    line = f"(call {name} {name} ({name}|-)|hand ({name}) (?!\\3 ){name} {name}|throw {name})"
    deeds = []
    for row in by_lines(text):
        if not re.fullmatch(line + r"\n", row):
            return None
        deeds.append(tuple(word.replace("-", "") for word in row.split()))
    return deeds


def gate_tails(_):
    """Lines with one of which the lines of a Gate can be led on to the end, if they can be."""
    return ["", "doors q\ncloset\n", "closet\n"]


def house_tails(lines):
    """Lines with one of which the lines of a House can be led on to the end, if they can be."""
    closets = [name for line in lines if line.startswith("closet ") for name in line.split()[1:]]
    heads = ("guests ", "things ", "doors ")
    others = [name for line in lines if line.startswith(heads) for name in line.split()[1:]]
    missing = " ".join(sorted(set(closets) - set(others)))
    fresh = [name for name in ["q", "qq", "qqq"] if name not in closets + others][0]
    tails = ["", "things\n", "guests\nthings\n", f"doors {fresh}\ncloset\n", "closet\n"]
    if missing:
        tails += [tail + f"gate 1\ndoors {missing}\ncloset\n" for tail in tails] + [f"doors {missing}\ncloset\n"]
    return tails


def line_of(text, read, tails):
    """The number of the line that is wrong, or None, by leading the lines on to the end."""
    if read(text) is not None:
        return None
    lines = by_lines(text)
    for number, line in enumerate(lines):
        ahead = "".join(lines[:number + 1])
        if not line.endswith("\n") or all(read(ahead + tail) is None for tail in tails(lines[:number + 1])):
            return number + 1
    return max(1, len(lines))


def near_texts(text, chance, many):
    """Texts that are like this one but for a sign, a word or a line, or that end early."""
    lines = by_lines(text)
    found = [text[:at] for at in range(0, len(text), 3)] + ["".join(lines[:at]) for at in range(len(lines))]
    for at, line in enumerate(lines):
        words = line.split()

        def rest(*new):
            """The text with other lines in the place of this one."""
            return "".join(lines[:at]) + "".join(new) + "".join(lines[at + 1:])

        found += [rest(), rest(line, line), rest(line, "\n"), rest(" " + line), rest(line[:-1] + " \n"),
                  rest(line[:-1]),
                  rest(line.replace(" ", "  ", 1)), rest(*lines[at + 1:at + 2], line), rest(words[0] + "\n"),
                  text + line,
                  rest(" ".join(words[:-1]) + "\n"), rest(" ".join(words + words[-1:]) + "\n"),
                  rest(line + chance.choice(lines)),
                  rest(" ".join(words[:1] + words[1:][::-1]) + "\n"), rest(re.sub("[0-9]+", "0\\g<0>", line)),
                  rest(re.sub("[0-9]+", "1000000000", line)), rest(re.sub("[0-9]+", "99999999", line)),
                  rest(re.sub(" [a-z]+", " q", line)),
                  rest(line.replace("-", "")), rest(line.replace(" -", "")), rest(line[:-1] + " q\n"),
                  rest(line[:-1] + " +kept\n"),
                  rest(line.replace(" - ", " keeps ")), rest(line.replace("keeps", "-")), rest(line.replace("?", "-"))]
    for _ in range(many):
        at = chance.randrange(len(text) + 1)
        sign = chance.choice("abcuq -?+0129,:()\n")
        found += [text[:at] + sign + text[at:], text[:at] + sign + text[at + 1:], text[:at] + text[at + 1:]]
    return found


class LinesTest(unittest.TestCase):
    def check(self, read, text, expected, line):
        """Check that a text is read as expected, or that this line is told to be wrong."""
        if line is None:
            found = read(text)
            self.assertEqual(found, expected, repr(text))
            self.assertIs(type(found), type(expected))
            return
        with self.assertRaises(NoText, msg=repr(text)) as caught:
            read(text)
        self.assertEqual(caught.exception.line, line, repr(text))
        self.assertIs(type(caught.exception.line), int)

    def check_near(self, read, plain, tails, text, chance, many=40):
        """Check a text and those near it."""
        self.assertIsNotNone(plain(text), text)
        for near in [text] + near_texts(text, chance, many):
            self.check(read, near, plain(near), line_of(near, plain, tails))

    def test_gates_shown_are_read_back(self):
        for gate in [post(), shop(), Gate(64, ["a"], [], []), *WIDE.gates(), *till().gates()]:
            self.check(read_gate, show_gate(gate), gate, None)
        for seed in range(60):
            chance = random.Random(seed)
            gate = random_gate(chance, chance.randint(1, 20), ["da", "abcdefgh"], ["x", "da", "cup"][:seed % 4], True)
            self.check(read_gate, show_gate(gate), gate, None)

    def test_near_gates(self):
        for seed, gate in enumerate([post(), shop(), Gate(64, ["a"], [], []), *WIDE.gates(), *till().gates()]):
            self.check_near(read_gate, plain_read_gate, gate_tails, show_gate(gate), random.Random(seed))

    def test_which_line_of_a_gate(self):
        text = show_gate(shop())
        for near, line in [("", 1), ("\n", 1), ("gate 1", 1), ("gate 1\n", 1), ("gate 0\n", 1),
                           ("gate 65\ndoors a\n", 1),
                           ("gate 01\n", 1),
                           ("gate 1\ndoors\n", 2), ("gate 1\ndoors a", 2), ("gate 1\ndoors a\n", 2),
                           ("gate 1\ndoors b a\n", 2),
                           ("gate 1\ndoors a a\n", 2), ("gate 1\ndoors a\ncloset ", 3),
                           ("gate 1\ndoors a\ncloset \n", 3),
                           ("gate 1\ndoors a\ncloset b a\n", 3), ("gate 1\ndoors a\ncloset\n\n", 4), (text + "\n", 6),
                           (text + "rule buy 1 - 1 -", 6), (text + "rule ask 0 - 0 -\n", 6), (text + text, 6),
                           (text + "rule buy 0 - 1 - cup\n", 6), (text + "rule buy 0 - 0 -\n", 6),
                           (text + "rule buy 2 - 1 -\n", 6),
                           (text + "rule buy 1 - 2 -\n", 6), (text + "rule buy 1 - 1 keeps\n", 6),
                           (text + "rule buy 1 - 1 - +given\n", 6),
                           (text + "rule buy 1 cup 1 -\n", 6), (text + "rule sell 1 - 1 -\n", 6),
                           (text + "rule buy 1 - 1\n", 6),
                           (text + "rule buy 1 - 1 - cup\n", 6), (text + "rule buy 1  1 -\n", 6),
                           (text + "rule buy 1 - 1 - -\n", 6),
                           (text + "rule buy 1 - 1 -\nrule buy 1 - 1 -\n", 7), (text + "first ann buy\n", 6),
                           (text.replace("rule ask 1", "rule ask 01"), 4), (text.replace("- +given", "+given"), 4)]:
            self.check(read_gate, near, None, line)
        for near in [text + "rule buy 1 - 1 -\n", text + "rule buy 1 ? 1 keeps +kept +given gold\n"]:
            self.assertEqual(show_gate(read_gate(near)), near)

    def test_houses_shown_are_read_back(self):
        for house in [market(), till(), WIDE, House([], [], [], []), House(["a", "b"], [], [], [("a", "b")])]:
            self.check(read_house, show_house(house), house, None)
        for seed in range(60):
            self.check(read_house, show_house(random_house(seed)), random_house(seed), None)

    def test_near_houses(self):
        for seed, house in enumerate([market(), till(), WIDE, House([], ["c"], [], []),
                                      House(["a", "b"], [], [], [("a", "b")])]):
            self.check_near(read_house, plain_read_house, house_tails, show_house(house), random.Random(seed))

    def test_near_other_houses(self):
        for seed in range(12):
            self.check_near(read_house, plain_read_house, house_tails, show_house(random_house(seed, 3, 2, 3)),
                            random.Random(seed), 10)

    def test_which_line_of_a_house(self):
        begin = "guests ann\nthings cup\n"
        gate = "gate 1\ndoors da\ncloset bell\n"
        for near, line in [
                ("", 1), ("guests", 1), ("guests\n", 1), ("things\n", 1), ("guests b a\n", 1), ("guests a a\n", 1),
                ("guests a\nguests b\n", 2),
                ("guests a\nthings a\n", 2), ("guests a\nthings b b\n", 2), ("guests a\nfirst a a\n", 2),
                (begin + "closet\n", 3),
                (begin + "rule da 0 - 0 -\n", 3), (begin + "gate 1\n", 3), (begin + "gate 1\ndoors cup\n", 4),
                (begin + "gate 1\ndoors cup da\n", 4),
                (begin + "gate 65\ndoors da\n", 3), ("guests a c\nthings b c\n", 2),
                (begin + "gate 1\ndoors ann\n", 4), (begin + "gate 1\ndoors da\n", 4), (begin + "gate 1\ngate 1\n", 4),
                (begin + "gate 1\ndoors da\nfirst ann da\n", 5), (begin + gate, 5),
                (begin + gate + "first ann cup\n", 6),
                (begin + gate + "rule da 0 - 0 -\n", 6), (begin + gate + "rule da 0 - 0 -\nfirst ann cup\n", 7),
                (begin + gate + "gate 1\ndoors da\n", 7), (begin + gate + "gate 1\ndoors de\ncloset\n", 8),
                (begin + gate + "gate 1\ndoors de\ncloset\nfirst ann da\n", 9),
                (begin + gate + "gate 1\ndoors ann\n", 7),
                (begin + gate + "gate 1\ndoors bell\ncloset\nfirst ann zed\n", 9), (begin + "first cup cup\n", 3),
                (begin + "first ann zed\n", 3), (begin + "first zed cup\n", 3), (begin + "first ann ann\n", 3),
                (begin + "first ann cup\nfirst ann cup\n", 4), (begin + "first ann cup\ngate 1\n", 4),
                (begin + "first ann cup", 3),
                (begin + "first ann\n", 3), (begin + "first ann cup cup\n", 3), (begin + "first ann  cup\n", 3),
                (begin + "first ann cup\n\n", 4), (begin + "first ann cup\nthings\n", 4),
                (begin + "first ann cup\nclosets\n", 4)]:
            self.check(read_house, near, None, line)
        for near in [begin, begin + gate + "gate 1\ndoors bell\ncloset\nfirst ann bell\nfirst ann cup\n",
                     begin + "gate 2\ndoors da\ncloset da\nrule da 1 da 0 keeps da\ngate 1\ndoors ca\ncloset\n"]:
            self.assertEqual(show_house(read_house(near)), near)

    def test_deeds_shown_are_read_back(self):
        deeds = [("call", "ann", "buy", ""), ("hand", "ann", "bob", "cup"), ("throw", "buy"),
                 ("call", "a", "b", "call"),
                 ("hand", "a", "b", "a"), ("throw", "buy")]
        for row in [[], deeds, deeds[:1]]:
            self.check(read_deeds, show_deeds(row), row, None)
        self.check_near(read_deeds, plain_read_deeds, lambda _: [""], show_deeds(deeds), random.Random(1), 200)

    def test_which_line_of_deeds(self):
        for near, line in [("\n", 1), ("throw a", 1), ("throw a\n\n", 2), ("throw a\nthrow a", 2),
                           ("throw a\nthrow b c\n", 2),
                           ("throw a\nhand a a b\nthrow\n", 2), ("throw a\n throw b\n", 2),
                           ("throw a\ncall a b -\ncall a b\n", 3),
                           ("throw -\n", 1), ("call a b c d\n", 1), ("call a - c\n", 1), ("hand a b -\n", 1),
                           ("call a b  \n", 1),
                           ("throw a\nthrow b\nx", 3), ("x\nthrow b", 1)]:
            self.check(read_deeds, near, None, line)

    def test_stands_shown_are_read_back(self):
        for stand in [((), ()), (((0, ""),), ()), ((), (("a", ("a",)),)),
                      (((10 ** 9 - 1, "x"), (0, "")), (("a", ("a", "b")), ("b", ("a", "b")))),
                      first_stand(market()), first_stand(till())]:
            self.check(read_stand, show_stand(stand), stand, None)
        for seed in range(20):
            house = random_house(seed, 2, 2, 3)
            for stand in list(plain_nodes(house, tuple(house.guests())))[:20]:
                self.check(read_stand, show_stand(stand), stand, None)

    def test_near_stands(self):
        stands = [first_stand(market()), first_stand(WIDE), (((12, "cup"), (0, "")),
                                                             (("ann", ("ann", "b")), ("b", ("b",))))]
        for seed, stand in enumerate(stands):
            self.check_near(read_stand, plain_read_stand, lambda _: [""], show_stand(stand), random.Random(seed), 150)

    def test_which_line_of_a_stand(self):
        for near, line in [("\n", 1), ("at 0", 1), ("at 00 -\n", 1), ("at 1000000000 -\n", 1), ("at -1 -\n", 1),
                           ("at 0\n", 1), ("at 0 - -\n", 1),
                           ("at 0 A\n", 1), ("at 0 -\nheld\n", 2), ("at 0 -\nheld a\n", 2), ("held a b\n", 1),
                           ("held b a\n", 1),
                           ("held a b a\n", 1), ("held a a a\n", 1), ("held a a\nheld a a\n", 2),
                           ("held b b\nheld a a\n", 2),
                           ("held a a\nat 0 -\n", 2), ("held a a\nheld b b", 2), ("held a a \n", 1),
                           ("held a a\n\n", 2)]:
            self.check(read_stand, near, None, line)


class AloneTest(unittest.TestCase):
    def check_refused(self, read, text):
        with self.assertRaises(NoText, msg=repr(text)) as caught:
            read(text)
        self.assertEqual(caught.exception.line, 1)

    def test_deeds(self):
        for deed in [("call", "ann", "buy", ""), ("hand", "ann", "bob", "cup"), ("throw", "buy"),
                     ("call", "a", "a", "a")]:
            self.assertEqual(read_deed(show_deed(deed)), deed)
            for near in near_texts(show_deed(deed), random.Random(1), 150):
                row = plain_read_deeds(near + "\n") or []
                if len(row) == 1:
                    self.assertEqual(read_deed(near), row[0])
                else:
                    self.check_refused(read_deed, near)
        for text in ["", "\n", "throw a\n", "throw a\nthrow b", "\nthrow a", "call a b ", "call a b", "throw  a",
                     "Throw a", "hand a a b"]:
            self.check_refused(read_deed, text)

    def test_wishes(self):
        pattern = "[a-z]{1,8} [a-z]{1,8}(, [a-z]{1,8} [a-z]{1,8})*"
        for wish in wishes(market(), 2)[::5] + [(("a", "b"), ("a", "c"), ("b", "a"), ("z", "abcdefgh"))]:
            self.assertEqual(read_wish(show_wish(wish)), wish)
            for near in near_texts(show_wish(wish), random.Random(2), 100):
                pairs = [tuple(part.split(" ")) for part in near.split(", ")]
                if re.fullmatch(pattern, near) and pairs == sorted(set(pairs)):
                    self.assertEqual(read_wish(near), tuple(pairs))
                else:
                    self.check_refused(read_wish, near)
        for text in ["", "ann", "ann cup ", " ann cup", "ann cup,", "ann cup,bob cup", "ann cup , bob cup",
                     "ann cup, ann cup",
                     "bob cup, ann cup", "ann cup\n", "ann cup,  bob cup", "ann  cup", "ann cup\n, bob cup", "ann -",
                     "a b c"]:
            self.check_refused(read_wish, text)

    def test_codes(self):
        codes = [("end", ()), ("end", ("a", "b", "a")), DEPUTY] + [random_code(seed, calls=4,
                                                                               sames=3) for seed in range(60)]
        for seed, code in enumerate(codes):
            text = show_code(code)
            self.assertEqual(read_code(text), code)
            for near in [text + " ", " " + text, text + "\n", text[:-1], text + ")", text.replace("? ", "?"),
                         text.replace(": ", ":")]:
                if near != text:
                    self.check_refused(read_code, near)
        for code in codes[:12]:
            for near in near_texts(show_code(code), random.Random(3), 150):
                try:
                    found = read_code(near)
                except NoText as error:
                    self.assertEqual(error.line, 1)
                    continue
                self.assertTrue(plain_is_code(found))
                self.assertEqual(show_code(found), near)

    def test_no_codes(self):
        for text in ["", "end", "end(", "end)", "end( )", "end ()", "end(a )", "end(a  b)", "end(-)", "End()",
                     "end()\n", "end()end()",
                     "end() end()", "(end())", "same(a b ? end() : end()", "same(a ? end() : end())",
                     "same(a - ? end() : end())",
                     "same(a b ? end() end())", "same(a b : end() ? end())", "call(a -: ? end() : end())",
                     "call(- a: x ? end() : end())",
                     "call(a: x ? end() : end())", "call(a b x ? end() : end())", "call(a b : x ? end() : end())",
                     "call(a b: x x ? end() : end())", "call(a x: x ? end() : end())", "call(a b: a ? end() : end())",
                     "call(a b: x ? end() : end(x))", "call(a b: x ? end() : end() : end())", "end(abcdefghi)",
                     "end(a, b)", "()", "?", ":"]:
            self.check_refused(read_code, text)

    def test_thirty_brackets(self):
        text = "end()"
        for _ in range(29):
            text = "same(a b ? end() : " + text + ")"
        self.assertEqual(show_code(read_code(text)), text)
        self.check_refused(read_code, text[:-1])
        for text in ["same(a b ? " * 500, "(" * 2000, "call(a b: x ? " * 200 + "end()"]:
            with self.assertRaises(HouseError):
                read_code(text)


class AnyValueTest(unittest.TestCase):
    def test_what_is_no_string(self):
        for thing in junk():
            if not isinstance(thing, str):
                for read in READERS:
                    with self.assertRaises(NoText) as caught:
                        read(thing)
                    self.assertEqual(caught.exception.line, 0)

    def test_other_strings(self):
        for thing in ["x" * 2900, "\n" * 2900, " " * 2900, "~", "?", "+given", " ", "\n", "a\n", "a b c", "call", "-",
                      "0", "gate", "?:()"]:
            for read in READERS:
                with self.assertRaises(NoText) as caught:
                    read(thing)
                self.assertEqual(caught.exception.line, 1)

    def test_the_empty_text(self):
        for read in [read_gate, read_house, read_deed, read_wish, read_code]:
            with self.assertRaises(NoText) as caught:
                read("")
            self.assertEqual(caught.exception.line, 1)
        self.assertEqual((read_deeds(""), read_stand("")), ([], ((), ())))

    def test_what_is_returned_may_be_changed(self):
        read_deeds("throw a\n").clear()
        self.assertEqual(read_deeds("throw a\n"), [("throw", "a")])


if __name__ == "__main__":
    unittest.main()
