import itertools
import random
import time
import unittest

from letinside.books import Book
from letinside.doing import led
from letinside.errors import Idle, NoDoor, NoEdit, Nothing, NoRule, Opened, Stopped, Strange, Wrong
from letinside.gates import Gate
from letinside.houses import House
from letinside.kinds import is_name, is_wish
from letinside.reach import can, fewest, is_play_for
from letinside.stands import first_stand
from tests.samples import choice_house, junk, market, market_in_other_order, otherwise, plain_has, plain_nodes
from tests.samples import random_house, shuffled
from tests.test_nodes import many_nodes
from tests.test_reach import wishes

BOTH = ("ann", "bob")
CUP = (("bob", "cup"),)
BUY = ("buy", 0, "", 1, False, ("cup",))
BUY_KEY = ("buy", 0, "")
WORDS = ["give", "withhold", "act", "rest", "rule", "norule", "ban", "lift"]


def state_of(book):
    """All that is told of a Book."""
    return (book.house, book.acting, book.bans(), book.log(), len(book))


def banned():
    """A Book of the market without what bob gets by, in which two wishes are banned."""
    book = Book(market(), BOTH)
    for edit in [("withhold", "bob", "get"), ("ban", CUP), ("ban", (("bob", "buy"), ("bob", "put")))]:
        book.do(edit)
    return book


def plain_is_edit(thing):
    """Whether thing is an edit by its form."""
    if type(thing) is not tuple or not thing or type(thing[0]) is not str:
        return False
    form = {"give": [is_name, is_name], "withhold": [is_name, is_name], "act": [is_name], "rest": [is_name],
            "rule": [lambda part: type(part) is int and part >= 0, lambda part: True], "norule": [lambda part: True],
            "ban": [is_wish], "lift": [is_wish]}.get(thing[0])
    return form is not None and len(form) == len(thing) - 1 and all(fits(part) for fits, part in zip(form, thing[1:]))


def plain_do(state, edit):
    """The state (house, acting, bans) behind an edit, or the error with what it bears."""
    house, acting, bans = state
    if not plain_is_edit(edit):
        return (NoEdit, {})
    word = edit[0]
    pairs = {"give": [edit[1:]], "withhold": [edit[1:]], "act": [edit[1:] * 2], "rest": [edit[1:] * 2]}.get(word, [])
    for guest, name in edit[1] if word in ("ban", "lift") else pairs:
        if guest not in house.guests():
            return (Strange, {"name": guest})
        if name not in house.objects():
            return (Strange, {"name": name})
    gates, first = house.gates(), set(house.first())
    if word == "rule":
        if edit[1] >= len(gates):
            return (NoDoor, {"door": edit[1]})
        try:
            gates[edit[1]] = gates[edit[1]].with_rule(edit[2])
        except Wrong:
            return (Wrong, {"place": 0})
    if word == "norule":
        found = [number for number, gate in enumerate(gates) for rule in gate.rules() if same_key(rule, edit[1])]
        if not found:
            return (NoRule, {"key": edit[1]})
        gates[found[0]] = Gate(gates[found[0]].states, gates[found[0]].doors(), gates[found[0]].closet(),
                               [rule for rule in gates[found[0]].rules() if not same_key(rule, edit[1])])
    first = first | {edit[1:]} if word == "give" else first - {edit[1:]} if word == "withhold" else first
    acts = set(acting) | {edit[1]} if word == "act" else set(acting) - {edit[1]} if word == "rest" else acting
    stand = set(bans) | {edit[1]} if word == "ban" else set(bans) - {edit[1]} if word == "lift" else bans
    later = (House(house.guests(), house.things(), gates, sorted(first)), tuple(sorted(acts)), sorted(stand))
    if later == (house, acting, bans):
        return (Idle, {})
    found = plain_nodes(later[0], later[1])
    for ban in later[2]:
        turns = [many for node, many in found.items() if plain_has(node, ban)]
        if turns:
            return (Opened, {"ban": ban, "turns": min(turns)})
    return later


def same_key(rule, key):
    """Whether a rule has this key, any value."""
    return type(key) is tuple and len(key) == 3 and key == rule[:3] and type(key[1]) is int


def random_edit(house, bans, chance):
    """An edit of a House with bans, most of which can be done."""
    guest, name = chance.choice(house.guests()), chance.choice(house.objects())
    gate = chance.choice(house.gates())
    rules = gate.rules() or [("zz", 0, "", 0, False, ())]
    rule = chance.choice(rules)
    wish = tuple(sorted({(chance.choice(house.guests()), chance.choice(house.objects()))
                         for _ in range(chance.randint(1, 2))}))
    number = house.gates().index(gate)
    return chance.choice([
        ("give", guest, name), ("give", guest, name), ("withhold",) + chance.choice(house.first() or [(guest, name)]),
        ("act", guest), ("act", guest), ("rest", guest), ("ban", wish), ("ban", wish), ("ban", wish),
        ("lift", chance.choice(bans + [wish])),
        ("rule", number, rule[:3] + (chance.randrange(gate.states),) + rule[4:]),
        ("rule", number, rule[:5] + (("+kept",),)),
        ("norule", rule[:3]), ("rule", number + 1, rule), ("norule", (rule[0], 9, "")), ("give", "zed", "cup"),
        ("ban", ())])


class BookTest(unittest.TestCase):
    def check_refused(self, book, edit, error, **fields):
        """Check that an edit is refused with an error that bears this, and changes nothing."""
        before = state_of(book)
        with self.assertRaises(error) as caught:
            book.do(edit)
        self.assertIs(type(caught.exception), error)
        for field, value in fields.items():
            self.assertEqual(getattr(caught.exception, field), value)
        self.assertEqual(state_of(book), before)

    def test_at_first(self):
        for house, acting in [(market(), ()), (market(), ("ann",)), (market(), BOTH), (House([], [], [], []), ())]:
            book = Book(house, acting) if acting else Book(house)
            self.assertEqual(state_of(book), (house, acting, [], [], 0))
            self.assertIs(type(book.acting), tuple)
            self.assertIs(type(len(book)), int)
        self.assertEqual(Book(acting=("bob",), house=market()).acting, ("bob",))

    def test_wrong(self):
        for thing in junk() + [[market()], Book(market())]:
            if type(thing) is not House:
                for acting in [(), thing]:
                    with self.assertRaises(Wrong) as caught:
                        Book(thing, acting)
                    self.assertEqual(caught.exception.place, 0)
            if thing not in [(), ("ann",), ("ann", "bob"), ("bob",)]:
                with self.assertRaises(Wrong) as caught:
                    Book(market(), thing)
                self.assertEqual(caught.exception.place, 1)
        for acting in [("bob", "ann"), ("ann", "ann"), ["ann"], ("zed",), ("cup",), ("ann", "cup"), ("ann", None),
                       "ann", {"ann": 1}]:
            with self.assertRaises(Wrong) as caught:
                Book(market(), acting)
            self.assertEqual(caught.exception.place, 1)

    def test_give_and_withhold(self):
        book = Book(market(), ("ann",))
        book.do(("give", "bob", "put"))
        self.assertEqual(book.house, market().with_first(market().first() + [("bob", "put")]))
        book.do(("withhold", "ann", "put"))
        self.assertEqual(book.house.first(), [("ann", "buy"), ("bob", "get"), ("bob", "put")])
        self.assertEqual(book.log(), [("give", "bob", "put"), ("withhold", "ann", "put")])
        for edit in [("give", "bob", "put"), ("give", "bob", "bob"), ("withhold", "ann", "put"),
                     ("withhold", "bob", "bob")]:
            self.check_refused(book, edit, Idle)
        for edit, name in [(("give", "zed", "what"), "zed"), (("give", "cup", "what"), "cup"),
                           (("give", "ann", "what"), "what"),
                           (("withhold", "put", "ann"), "put"), (("withhold", "bob", "zed"), "zed")]:
            self.check_refused(book, edit, Strange, name=name)

    def test_act_and_rest(self):
        book = Book(market())
        book.do(("act", "bob"))
        book.do(("act", "ann"))
        self.assertEqual(book.acting, BOTH)
        book.do(("rest", "bob"))
        self.assertEqual(book.acting, ("ann",))
        self.check_refused(book, ("act", "ann"), Idle)
        self.check_refused(book, ("rest", "bob"), Idle)
        self.check_refused(book, ("act", "cup"), Strange, name="cup")
        self.check_refused(book, ("rest", "zed"), Strange, name="zed")
        self.assertEqual(len(book), 3)

    def test_rule_and_norule(self):
        book = Book(market(), BOTH)
        other = ("get", 0, "", 0, False, ())
        book.do(("rule", 1, other))
        self.assertEqual(book.house.gates()[1].rules(), [other, ("put", 0, "?", 0, True, ("+kept",))])
        book.do(("norule", BUY_KEY))
        self.assertEqual(book.house.gates()[0].rules(), [("ask", 1, "?", 1, False, ("+given", "cup"))])
        book.do(("rule", 0, BUY))
        self.assertEqual(book.house.gates()[0], market().gates()[0])
        self.check_refused(book, ("rule", 0, BUY), Idle)
        for number in [2, 3, 10 ** 39]:
            self.check_refused(book, ("rule", number, BUY), NoDoor, door=number)
            self.check_refused(book, ("rule", number, None), NoDoor, door=number)
        self.check_refused(book, ("rule", 1, BUY), Wrong, place=0)
        for thing in junk() + [BUY[:5], list(BUY), BUY[:1] + (False,) + BUY[2:], BUY[:5] + (["cup"],),
                               BUY[:5] + (("key",),)]:
            self.check_refused(book, ("rule", 0, thing), Wrong, place=0)
        for key in junk() + [list(BUY_KEY), BUY, ("buy", False, ""), ("buy", 1, ""), ("zed", 0, ""), ("buy", 0, "?")]:
            self.check_refused(book, ("norule", key), NoRule, key=key)
        self.assertEqual(len(book), 3)

    def test_ban_and_lift(self):
        book = Book(market(), ("ann",))
        two = (("ann", "get"), ("bob", "cup"))
        book.do(("ban", CUP))
        book.do(("ban", two))
        self.assertEqual(book.bans(), [two, CUP])
        self.check_refused(book, ("ban", CUP), Idle)
        self.check_refused(book, ("lift", (("bob", "buy"),)), Idle)
        book.do(("lift", CUP))
        self.assertEqual(book.bans(), [two])
        for word in ["ban", "lift"]:
            for wish, name in [((("ann", "zed"), ("cup", "cup")), "zed"), ((("ann", "cup"), ("cup", "zed")), "cup"),
                               ((("zed", "what"),), "zed"), ((("bob", "what"),), "what"), ((("buy", "cup"),), "buy")]:
                self.check_refused(book, (word, wish), Strange, name=name)
        self.assertEqual(book.log(), [("ban", CUP), ("ban", two), ("lift", CUP)])

    def test_no_edits(self):
        book = banned()
        edits = [("give", "ann"), ("give", "ann", ""), ("give", "ann", "Cup"), ("give", "ann", "cup", "cup"),
                 ["give", "ann", "cup"],
                 ("act",), ("act", "ann", "bob"), ("act", None), ("rest", ("ann",)), ("rule", 0), ("rule", -1, BUY),
                 ("rule", True, BUY),
                 ("rule", "0", BUY), ("rule", 0, BUY, BUY), ("norule",), ("norule", "buy", 0, ""), ("ban",),
                 ("ban", ()),
                 ("ban", "bob", "cup"), ("ban", [("bob", "cup")]), ("ban", (("bob", "cup"), ("ann", "cup"))),
                 ("lift", (("bob",),)),
                 ("lift", (("bob", "cup"), ("bob", "cup"))), ("Give", "ann", "cup"), ("", "ann", "cup"), (),
                 ("throw", "buy")]
        for edit in edits + junk():
            self.check_refused(book, edit, NoEdit)
        for word in WORDS:
            for thing in junk():
                for edit in [(word, thing), (word, "ann", thing), (word, thing, "cup"), (word, 0, thing),
                             (thing, "ann", "cup")]:
                    expected = plain_do((book.house, book.acting, book.bans()), edit)
                    if expected[0] is NoEdit:
                        self.check_refused(book, edit, NoEdit)

    def test_with_one_thing_otherwise(self):
        for edit in [("give", "bob", "get"), ("rule", 1, ("get", 0, "", 0, False, ())), ("norule", BUY_KEY),
                     ("ban", (("bob", "ann"),)), ("rest", "ann")]:
            for thing in otherwise(edit):
                book = banned()
                expected = plain_do((book.house, book.acting, book.bans()), thing)
                self.check_done(book, thing, expected)

    def check_done(self, book, edit, expected):
        """Check what comes of an edit by what is expected of it."""
        if type(expected[0]) is House:
            log = book.log()
            self.assertIsNone(book.do(edit))
            self.assertEqual(state_of(book), expected + (log + [edit], len(log) + 1))
        elif expected[0] is Opened:
            self.check_opened(book, edit, expected[1]["ban"], expected[1]["turns"])
        else:
            self.check_refused(book, edit, expected[0], **expected[1])

    def check_opened(self, book, edit, ban, turns):
        """Check that an edit is refused since this ban could come then, with so few turns."""
        self.check_refused(book, edit, Opened, ban=ban)
        house, acting = book.house, book.acting
        if edit[0] == "give":
            house = house.with_first(house.first() + [edit[1:]])
        if edit[0] == "act":
            acting = tuple(sorted(acting + edit[1:]))
        if edit[0] == "rule":
            house = house.with_gate(edit[1], house.gates()[edit[1]].with_rule(edit[2]))
        try:
            book.do(edit)
        except Opened as error:
            self.assertIs(is_play_for(house, acting, ban, error.play), True)
            self.assertEqual(fewest(house, acting, ban), turns)
            self.assertEqual(turns_in(house, error.play), turns)
            error.play.clear()
        self.check_refused(book, edit, Opened, ban=ban)

    def test_opened(self):
        self.check_opened(Book(market(), BOTH), ("ban", CUP), CUP, 2)
        self.check_opened(Book(market()), ("ban", (("ann", "ann"),)), (("ann", "ann"),), 0)
        self.check_opened(banned(), ("give", "bob", "get"), (("bob", "buy"), ("bob", "put")), 1)
        book = banned()
        book.do(("lift", (("bob", "buy"), ("bob", "put"))))
        self.check_opened(book, ("give", "bob", "get"), CUP, 2)
        self.check_opened(book, ("give", "bob", "cup"), CUP, 0)
        self.check_opened(book, ("give", "ann", "bob"), CUP, 1)
        waiting = Book(market(), ("ann",))
        waiting.do(("ban", CUP))
        self.check_opened(waiting, ("act", "bob"), CUP, 2)
        ruled = Book(market().without_rule(BUY_KEY), BOTH)
        ruled.do(("ban", CUP))
        self.check_opened(ruled, ("rule", 0, ("buy", 0, "", 0, False, ("cup",))), CUP, 1)
        self.check_opened(ruled, ("rule", 0, BUY), CUP, 2)

    def test_the_least_ban_that_could_come(self):
        book = Book(market(), ("ann",))
        for wish in [CUP, (("ann", "bob"), ("ann", "get")), (("ann", "bob"),), (("ann", "bob"), ("bob", "bob"))]:
            book.do(("ban", wish))
        self.check_opened(book, ("give", "ann", "bob"), (("ann", "bob"),), 0)
        book.do(("lift", (("ann", "bob"),)))
        self.check_opened(book, ("give", "ann", "bob"), (("ann", "bob"), ("bob", "bob")), 0)

    def test_errors_in_order(self):
        book = banned()
        self.check_refused(book, ("give", "zed", "Cup"), NoEdit)
        self.check_refused(book, ("rule", 7, 7), NoDoor, door=7)
        self.check_refused(book, ("ban", (("zed", "cup"),)), Strange, name="zed")
        self.check_refused(book, ("withhold", "bob", "get"), Idle)
        self.check_refused(book, ("rule", 1, market().gates()[1].rules()[0]), Idle)

    def test_back_and_again(self):
        book = banned()
        edits = book.log()
        states = []
        while len(book):
            states.append(state_of(book)[:3])
            self.assertEqual(book.back(), edits[len(book)])
        self.assertEqual(state_of(book), (market(), BOTH, [], [], 0))
        with self.assertRaises(Nothing):
            book.back()
        for edit, state in zip(edits, states[::-1]):
            self.assertEqual(book.again(), edit)
            self.assertEqual(state_of(book)[:3], state)
        with self.assertRaises(Nothing):
            book.again()
        self.assertEqual(book.log(), edits)

    def test_again_is_lost_behind_do(self):
        book = banned()
        book.back()
        book.back()
        self.check_refused(book, ("ban", ()), NoEdit)
        self.check_refused(book, ("withhold", "bob", "get"), Idle)
        self.assertEqual(book.again(), ("ban", CUP))
        book.back()
        book.do(("rest", "ann"))
        with self.assertRaises(Nothing):
            book.again()
        self.assertEqual(book.log(), [("withhold", "bob", "get"), ("rest", "ann")])
        self.assertEqual(book.back(), ("rest", "ann"))
        self.assertEqual(book.again(), ("rest", "ann"))
        self.assertEqual([book.back(), book.back()], [("rest", "ann"), ("withhold", "bob", "get")])
        self.assertEqual([book.again(), book.again()], [("withhold", "bob", "get"), ("rest", "ann")])

    def test_undone_no_ban_comes(self):
        book = banned()
        for step in [book.back] * 3 + [book.again] * 3:
            step()
            for ban in book.bans():
                self.assertIs(can(book.house, book.acting, ban), False)

    def test_copied(self):
        book = banned()
        book.back()
        other = book.copied()
        self.assertIs(type(other), Book)
        self.assertEqual(other, book)
        self.assertEqual(state_of(other), state_of(book))
        self.assertEqual(other.again(), ("ban", (("bob", "buy"), ("bob", "put"))))
        self.assertEqual(len(book), 2)
        other.do(("rest", "ann"))
        self.assertEqual([other.back() for _ in range(4)][-1], ("withhold", "bob", "get"))
        self.assertEqual(state_of(book)[3:], (banned().log()[:2], 2))
        self.assertEqual(book.again(), ("ban", (("bob", "buy"), ("bob", "put"))))
        book.back()
        book.do(("rest", "bob"))
        self.assertEqual(other.acting, BOTH)
        self.assertEqual(other.again(), ("withhold", "bob", "get"))

    def test_trial(self):
        book = banned()
        before = state_of(book)
        other = book.trial([("lift", CUP), ("lift", (("bob", "buy"), ("bob", "put"))), ("give", "bob", "get")])
        self.assertIs(type(other), Book)
        self.assertEqual((other.house, other.bans(), len(other)), (market(), [], 6))
        self.assertEqual(state_of(book), before)
        self.assertEqual(state_of(book.trial([])), before)
        other.do(("rest", "ann"))
        for edits, index in [([("give", "bob", "get")], 0), ([("lift", CUP), ("give", "bob", "get")], 1),
                             ([("lift", CUP)] * 2, 1),
                             ([("rest", "ann"), ("act", "zed"), None], 1), ([("rest", "ann"), ("norule", 7)], 1),
                             ([("rest", "ann"), ("rest", "bob"), ("rule", 9, None)], 2)]:
            with self.assertRaises(Stopped) as caught:
                book.trial(edits)
            self.assertEqual(caught.exception.index, index)
            self.assertEqual(state_of(book), before)
        for thing in junk():
            with self.assertRaises(Stopped) as caught:
                book.trial([("rest", "ann"), thing])
            self.assertEqual(caught.exception.index, 1)
        book.back()
        self.assertEqual(book.trial([("rest", "ann")]).log()[-1], ("rest", "ann"))
        self.assertEqual(book.again(), before[3][-1])

    def test_equality(self):
        self.assertEqual(Book(market(), BOTH), Book(market_in_other_order(), BOTH))
        self.assertFalse(Book(market(), BOTH) != Book(market_in_other_order(), BOTH))
        self.assertNotEqual(Book(market(), BOTH), Book(market(), ("ann",)))
        self.assertNotEqual(Book(market(), BOTH), Book(market().with_first([]), BOTH))
        book, other = Book(market(), ("ann",)), Book(market())
        other.do(("act", "ann"))
        self.assertEqual(book, other)
        book.do(("ban", CUP))
        self.assertNotEqual(book, other)
        other.do(("ban", (("ann", "get"),)))
        self.assertNotEqual(book, other)
        other.do(("ban", CUP))
        book.do(("ban", (("ann", "get"),)))
        self.assertEqual(book, other)
        self.assertNotEqual(book.log(), other.log())
        for thing in junk() + [(market(), ("ann",), book.bans())]:
            self.assertIs(book == thing, False)

    def test_of_other_books(self):
        kinds = []
        for seed in range(60):
            chance = random.Random(seed)
            house = random_house(seed, 3, 2, 3) if seed % 2 else choice_house(seed)
            book = Book(house, tuple(house.guests())[seed % 2:])
            undone = []
            for _ in range(14):
                if chance.random() < 0.15 and len(book):
                    undone.append(book.back())
                elif chance.random() < 0.3 and undone:
                    self.assertEqual(book.again(), undone.pop())
                edit = random_edit(book.house, book.bans(), chance)
                expected = plain_do((book.house, book.acting, book.bans()), edit)
                kinds.append(expected[0] if type(expected[0]) is type else edit[0])
                if type(expected[0]) is House:
                    undone = []
                self.check_done(book, edit, expected)
                for ban in book.bans():
                    self.assertIs(can(book.house, book.acting, ban), False)
        for kind in WORDS + [Idle, Opened, NoEdit, Strange, NoDoor, NoRule]:
            self.assertGreater(kinds.count(kind), 2, kind)

    def test_what_is_returned_may_be_changed(self):
        book = banned()
        before, margin = state_of(book), book.margin()
        book.bans().clear()
        book.log().append(1)
        book.margin().clear()
        for pairs in book.margin().values():
            pairs.append(1)
        book.house.first().clear()
        self.assertEqual((state_of(book), book.margin()), (before, margin))
        edits = [("rest", "ann")]
        book.trial(edits)
        self.assertEqual(edits, [("rest", "ann")])


def turns_in(house, play):
    """How many deeds of a play are turns."""
    stands = led(house, first_stand(house), play)
    return sum(one[0] != other[0] for one, other in zip(stands, stands[1:]))


class MarginTest(unittest.TestCase):
    def check(self, book):
        """Check the margin of a Book pair by pair, and return it."""
        house, acting = book.house, book.acting
        pairs = [(guest, name) for guest in house.guests() for name in house.objects()
                 if guest != name and (guest, name) not in house.first()]
        expected = {ban: [pair for pair in pairs if can(house.with_first(house.first() + [pair]), acting, ban)]
                    for ban in book.bans()}
        found = book.margin()
        self.assertEqual(found, expected)
        self.assertIs(type(found), dict)
        self.assertEqual(list(found), book.bans())
        return found

    def test_of_the_market(self):
        self.assertEqual(self.check(Book(market(), BOTH)), {})
        book = Book(market(), ("ann",))
        book.do(("ban", CUP))
        self.assertEqual(self.check(book), {CUP: [("ann", "bob"), ("bob", "cup")]})
        two = (("ann", "get"), ("bob", "cup"))
        book.do(("ban", two))
        self.assertEqual(self.check(book), {two: [], CUP: [("ann", "bob"), ("bob", "cup")]})
        self.check(banned())

    def test_nobody_acts(self):
        book = Book(market())
        book.do(("ban", CUP))
        book.do(("ban", (("ann", "buy"), ("ann", "cup"))))
        self.assertEqual(self.check(book), {CUP: [("bob", "cup")], (("ann", "buy"), ("ann", "cup")): [("ann", "cup")]})

    def test_of_other_books(self):
        many = 0
        for seed in range(80):
            house = random_house(seed, 3, 2, 3) if seed % 2 else choice_house(seed)
            acting = tuple(house.guests())[seed % 3:]
            book = Book(house, acting)
            for wish in [wish for wish in wishes(house, 2)[seed % 7::29] if not can(house, acting, wish)][:4]:
                book.do(("ban", wish))
            many += sum(len(pairs) for pairs in self.check(book).values())
            other = Book(shuffled(house, seed), acting).trial(book.log()[::-1])
            self.assertEqual(list(other.margin().items()), list(book.margin().items()))
        self.assertGreater(many, 150)

    def test_a_house_of_many_nodes(self):
        began = time.monotonic()
        house, acting = many_nodes(), ("ann", "bob", "cat", "dan")
        book = Book(house, acting)
        for wish in [wish for wish in itertools.islice(wishes(house, 2), 0, None, 7) if not can(house, acting,
                                                                                                wish)][:5]:
            book.do(("ban", wish))
        self.assertGreater(len(book.bans()), 2)
        book.margin()
        self.assertLess(time.monotonic() - began, 60)


if __name__ == "__main__":
    unittest.main()
