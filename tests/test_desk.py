import random
import unittest

from letinside.books import Book
from letinside.desk import Desk
from letinside.ends import ever
from letinside.errors import HouseError, NoCommand, Nothing, Opened, Wrong
from letinside.houses import House
from letinside.least import actor_lots, barring
from letinside.notation import show_house, show_wish
from letinside.reach import can, fewest
from letinside.throws import latest
from tests.samples import choice_house, junk, market, market_in_other_order, random_house
from tests.test_reach import wishes
from tests.test_throws import stairs

BOTH = ["act ann", "act bob"]
WISHING = ["ban", "lift", "can", "turns", "actors", "lots"]


def desk_behind(lines, house=None):
    """A desk behind lines."""
    desk = Desk(house or market())
    for line in lines:
        desk.execute(line)
    return desk


def answers(lines, house=None):
    """The answers to lines."""
    desk = Desk(house or market())
    return [desk.execute(line) for line in lines]


class DeskTest(unittest.TestCase):
    def check_no_command(self, desk, line):
        before = desk.book()
        with self.assertRaises(NoCommand, msg=repr(line)[:99]):
            desk.execute(line)
        self.assertEqual((desk.book(), desk.book().log()), (before, before.log()))

    def test_wrong(self):
        for thing in junk() + [Book(market()), [market()]]:
            if type(thing) is not House:
                with self.assertRaises(Wrong) as caught:
                    Desk(thing)
                self.assertEqual(caught.exception.place, 0)

    def test_at_first(self):
        desk = Desk(market())
        self.assertEqual((desk.book(), len(desk.book())), (Book(market()), 0))

    def test_edits(self):
        self.assertEqual(answers(BOTH + ["rest ann", "withhold bob get", "give bob buy", "ban bob cup, bob put",
                                         "lift bob cup, bob put"]),
                         ["1", "2", "3", "4", "5", "6", "7"])
        desk = desk_behind(BOTH + ["rest ann", "withhold bob get", "give bob put", "ban ann get, bob cup"])
        self.assertEqual(desk.book().log(), [("act", "ann"), ("act", "bob"), ("rest", "ann"),
                                             ("withhold", "bob", "get"),
                                             ("give", "bob", "put"), ("ban", (("ann", "get"), ("bob", "cup")))])
        self.assertEqual(desk.execute("back"), "ban ann get, bob cup")
        self.assertEqual(desk.execute("rest bob"), "6")

    def test_back_and_again(self):
        lines = ["act ann", "withhold bob get", "give bob put", "ban ann get, bob cup", "lift ann get, bob cup",
                 "rest ann"]
        desk = desk_behind(lines)
        self.assertEqual([desk.execute("back") for _ in lines], lines[::-1])
        self.assertEqual(desk.execute("back"), "refused")
        self.assertEqual([desk.execute("again") for _ in lines], lines)
        self.assertEqual(desk.execute("again"), "refused")
        self.assertEqual(desk.book(), desk_behind(lines).book())
        self.assertEqual([desk.execute(line) for line in ["back", "back", "rest ann", "again"]],
                         ["rest ann", "lift ann get, bob cup",
                                                                                                 "5", "refused"])
        self.assertEqual(answers(["back", "again"]), ["refused", "refused"])

    def test_opened(self):
        self.assertEqual(answers(BOTH + ["ban bob cup"])[-1], "opened bob cup")
        desk = desk_behind(["act ann", "ban bob cup", "ban ann bob, ann get"])
        self.assertEqual(desk.execute("act bob"), "opened ann bob, ann get")
        self.assertEqual(desk.execute("give ann bob"), "opened bob cup")
        self.assertEqual(desk.execute("give bob cup"), "opened bob cup")
        self.assertEqual(len(desk.book()), 3)
        self.assertEqual(answers(["ban ann ann"]), ["opened ann ann"])

    def test_refused(self):
        desk = desk_behind(["act ann", "ban bob cup"])
        for line in ["act ann", "rest bob", "give ann buy", "give bob bob", "withhold ann get", "ban bob cup",
                     "lift bob buy", "act zed",
                     "act cup", "rest buy", "give zed cup", "give ann zed", "give cup cup", "withhold bob zed",
                     "withhold get bob",
                     "ban zed cup", "ban ann zed", "ban cup cup", "ban ann get, zed cup", "lift ann get, bob zed",
                     "can zed cup",
                     "can ann zed", "can buy cup", "can ann buy, bob zed", "turns zed cup", "turns ann zed",
                     "turns cup ann",
                     "holds zed", "holds cup", "holds buy", "actors zed cup", "actors ann zed", "actors get get",
                     "lots zed cup",
                     "lots ann zed", "lots put ann", "late cup bob cup", "late ann bob cup", "late zed bob cup",
                     "late buy zed cup",
                     "late buy ann zed", "late buy cup cup", "again"]:
            self.assertEqual(desk.execute(line), "refused", line)
        self.assertEqual(desk.book().log(), [("act", "ann"), ("ban", (("bob", "cup"),))])
        desk.execute("back")
        self.assertEqual([desk.execute("act zed"), desk.execute("again")], ["refused", "ban bob cup"])

    def test_what_can_come(self):
        self.assertEqual(answers(["can bob cup", "can bob get", "turns bob cup", "turns bob get"] + BOTH),
                         ["no", "yes", "-", "0", "1", "2"])
        desk = desk_behind(BOTH)
        self.assertEqual([desk.execute(line) for line in ["can bob cup", "turns bob cup", "can ann cup, bob cup",
                                                          "turns ann cup",
                                                          "turns ann bob"]], ["yes", "2", "yes", "1", "1"])

    def test_holds(self):
        self.assertEqual(answers(["holds ann", "holds bob"]), ["ann buy put", "bob get"])
        self.assertEqual(desk_behind(BOTH).execute("holds bob"), "ann bob buy cup get put")
        self.assertEqual(answers(["holds dan"], House(["dan"], [], [], [])), ["dan"])

    def test_lots(self):
        self.assertEqual(answers(["actors bob cup", "actors ann cup", "actors bob get", "actors ann ask"]),
                         ["ann bob", "ann", "-", "none"])
        self.assertEqual(answers(BOTH + ["lots bob cup", "lots ann cup", "lots ann ann", "lots ann ask",
                                         "lots ann put, bob get"])[2:],
                         ["ann:buy, ann:put, bob:get", "ann:buy", "none", "-", "ann:put, bob:get"])
        house = House(["ann", "bob"], ["cup"], [], [("ann", "cup"), ("bob", "ann"), ("bob", "cup")])
        self.assertEqual(answers(["actors ann cup", "actors bob ann", "lots bob cup", "act bob", "lots ann cup"],
                                 house),
                         ["-", "-", "bob:cup", "1", "ann:cup bob:ann, ann:cup bob:cup"])
        both_ways = House(["ann", "bob"], ["cup"], [], [("ann", "cup"), ("ann", "bob"), ("bob", "ann")])
        self.assertEqual(answers(["actors bob cup", "actors bob bob, bob cup"], both_ways), ["ann", "ann"])

    def test_late(self):
        self.assertEqual(answers(["late buy bob cup"] + BOTH + ["late buy bob cup", "late get bob cup"]),
                         ["never", "1", "2", "0", "no"])
        self.assertEqual(answers(["act ann", "late jam ann cup", "late back ann cup", "late jam ann cup, bob cup"],
                                 stairs()),
                         ["1", "2", "no", "never"])

    def test_texts(self):
        self.assertEqual(answers(["house"]), [show_house(market())])
        desk = desk_behind(["withhold bob get", "give bob buy"])
        self.assertEqual(desk.execute("house"), show_house(market().with_first([("ann", "buy"), ("ann", "put"),
                                                                                ("bob", "buy")])))
        self.assertEqual(answers(["bans", "ban bob cup", "bans", "ban ann get, bob ann", "bans", "ban ann bob",
                                  "bans"]),
                         ["none", "1", "bob cup", "2", "ann get, bob ann; bob cup", "3",
                          "ann bob; ann get, bob ann; bob cup"])

    def test_no_lines(self):
        desk = desk_behind(["act ann", "ban bob cup"])
        for line in ["", " ", "\n", "back ", " back", "back\n", "back back", "backs", "Back", "again 1", "house ann",
                     "house\n", "bans bob",
                     "bans ", "act", "act ", "act  ann", "act ann ", " act ann", "act ann bob", "act Ann", "act -",
                     "act abcdefghi", "rest",
                     "rest ann\n", "holds", "holds ann bob", "holds a1", "give", "give ann", "give ann cup key",
                     "give ann  cup", "give ann cup ",
                     "give ann -", "give ann cup,", "withhold ann", "withhold ann, cup", "late", "late buy",
                     "late buy ", "late buy ann",
                     "late  ann cup", "late buy  ann cup", "late Buy ann cup", "late buy, ann cup",
                     "late buy bob cup, ann cup", "rule 0 a",
                     "norule buy 0 -", "call ann buy -", "throw buy", "margin", "acts ann", "ann", "can't ann cup",
                     "giv ann cup"]:
            self.check_no_command(desk, line)
        for word in WISHING + ["late buy"]:
            for rest in ["", " ", " ann", " ann cup ", "  ann cup", " ann  cup", " ann cup,", " ann cup,bob cup",
                         " ann cup , bob cup",
                         " ann cup,  bob cup", " bob cup, ann cup", " ann cup, ann cup", " ann cup\n", " ann Cup",
                         " ann cup; bob cup",
                         " ann cup key", " ann:cup", " ann -", "\nann cup", " ann cup, bob"]:
                self.check_no_command(desk, word + rest)

    def test_names_that_are_words_of_the_desk(self):
        house = House(["act", "back"], ["can", "late"], [], [("act", "can")])
        self.assertEqual(answers(["act act", "act back", "give act back", "can back can", "holds back",
                                  "late can act can", "back"], house),
                         ["1", "2", "3", "yes", "act back can", "refused", "give act back"])

    def test_any_value(self):
        desk = desk_behind(["act ann", "ban bob cup"])
        for thing in junk() + [["back"], ("back",), b"back", {"back": 1}, [["house"]]]:
            self.check_no_command(desk, thing)

    def test_book_is_a_copy(self):
        desk = desk_behind(["act ann", "act bob", "withhold bob get"])
        desk.execute("back")
        book = desk.book()
        self.assertIs(type(book), Book)
        self.assertEqual(book.log(), [("act", "ann"), ("act", "bob")])
        self.assertEqual(book.again(), ("withhold", "bob", "get"))
        book.do(("rest", "ann"))
        self.assertEqual(desk.execute("again"), "withhold bob get")
        self.assertEqual(desk.execute("rest bob"), "4")
        self.assertEqual(book.acting, ("bob",))
        with self.assertRaises(Nothing):
            book.again()

    def test_other_desks(self):
        seen = {}
        for seed in range(60):
            chance = random.Random(seed)
            house = random_house(seed, 3, 2, 3) if seed % 2 else choice_house(seed)
            desk, book = Desk(house), Book(house)
            for _ in range(16):
                line, answer = self.line_and_answer(book, chance)
                self.assertEqual(desk.execute(line), answer, line)
                seen.setdefault(line.split(" ")[0], []).append(answer.split(" ")[0])
                self.assertEqual((desk.book(), desk.book().log()), (book, book.log()))
        for word in ["give", "withhold", "act", "rest", "ban", "lift", "back", "again"]:
            self.assertGreater(len([1 for answer in seen[word] if answer not in ("refused", "opened")]), 3, word)
            self.assertIn("refused", seen[word])
        self.assertIn("opened", seen["ban"])

    def line_and_answer(self, book, chance):
        """A line, and the answer that a book has for it, which it does, too."""
        house, acting = book.house, book.acting
        guest, name = chance.choice(house.guests()), chance.choice(house.objects())
        wish = chance.choice(chance.choice([[ban] for ban in book.bans()] + [wishes(house, 1), wishes(house, 2)]))
        text = show_wish(wish)
        line = chance.choice([f"give {guest} {name}", f"act {guest}", f"act {guest}", f"rest {guest}", f"ban {text}",
                              f"ban {text}",
                              f"lift {text}", "back", "back", "again", "again", f"can {text}", f"turns {text}",
                              f"holds {guest}",
                              f"actors {text}", f"lots {text}", f"late {house.doors()[0]} {text}", "house", "bans",
                              "withhold {} {}".format(*chance.choice(house.first() + [(guest, name)]))])
        word = line.split(" ")[0]
        edits = {"give": ("give", guest, name), "act": ("act", guest), "rest": ("rest", guest), "ban": ("ban", wish),
                 "lift": ("lift", wish),
                 "withhold": tuple(line.split(" "))}
        try:
            if word in edits:
                book.do(edits[word])
                return (line, str(len(book.log())))
            if word in ("back", "again"):
                edit = book.back() if word == "back" else book.again()
                return (line, f"{edit[0]} {show_wish(edit[1])}" if edit[0] in ("ban", "lift") else " ".join(edit))
        except Opened as error:
            return (line, "opened " + show_wish(error.ban))
        except HouseError:
            return (line, "refused")
        lots = {"actors": actor_lots, "lots": lambda house, wish: [[":".join(pair) for pair in lot]
                                                                  for lot in barring(house, acting, wish)]}
        if word in lots:
            return (line, ", ".join(" ".join(lot) or "-" for lot in lots[word](house, wish)) or "none")
        told = latest(house, acting, house.doors()[0], wish)
        turns = fewest(house, acting, wish)
        return (line, {"can": "yes" if can(house, acting, wish) else "no",
                       "turns": "-" if turns is None else str(turns),
                       "holds": " ".join(ever(house, acting)[guest]), "late": str(told[-1]), "house": show_house(house),
                       "bans": "; ".join(show_wish(ban) for ban in book.bans()) or "none"}[word])

    def test_equal_houses_in_whatever_order(self):
        lines = BOTH + ["lots bob cup", "holds ann", "withhold bob get", "ban bob cup", "house", "actors ann cup",
                        "late buy ann cup"]
        self.assertEqual(answers(lines), answers(lines, market_in_other_order()))


if __name__ == "__main__":
    unittest.main()
