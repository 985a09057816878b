import random
import unittest

from letinside.doing import can_do, deeds_at, done, is_turn, led, told
from letinside.errors import NoDeed, NoDoor, NoGuest, NotDone, NotHeld
from letinside.gates import Gate
from letinside.houses import House
from letinside.kinds import is_deed
from letinside.stands import first_stand, is_stand
from tests.samples import junk, market, otherwise, plain_deeds, random_house

BEGIN = (((0, ""), (0, "")), (("ann", ("ann", "buy", "put")), ("bob", ("bob", "get"))))
BOUGHT = (((1, ""), (0, "")), (("ann", ("ann", "buy", "cup", "put")), ("bob", ("bob", "get"))))


def keeper():
    """A house whose gate keeps, tells what it had kept, and goes over by what it knows."""
    rules = [("da", 0, "?", 0, True, ("+kept", "+given", "cup")), ("da", 0, "cup", 1, True, ("+kept", "+kept")),
             ("da", 1, "", 0, False, ("+kept",)), ("db", 1, "?", 1, False, ("cup", "+given", "cup"))]
    return House(["ann", "bob"], ["cup", "key"], [Gate(2, ["da", "db"], ["cup"], rules)],
                 [("ann", "bob"), ("ann", "da"), ("ann", "db"), ("ann", "key")])


class DoneTest(unittest.TestCase):
    def test_a_call_with_a_rule(self):
        self.assertEqual(done(market(), BEGIN, ("call", "ann", "buy", "")), BOUGHT)
        self.assertEqual(told(market(), BEGIN, ("call", "ann", "buy", "")), ["cup"])

    def test_a_call_without_a_rule(self):
        for deed in [("call", "ann", "buy", ""), ("call", "ann", "buy", "cup"), ("call", "ann", "put", "")]:
            self.assertEqual(done(market(), BOUGHT, deed), BOUGHT)
            self.assertEqual(told(market(), BOUGHT, deed), [])
            self.assertIs(can_do(market(), BOUGHT, deed), True)
            self.assertIs(is_turn(market(), BOUGHT, deed), False)

    def test_keeping_and_telling_what_was_kept(self):
        house = keeper()
        stand = first_stand(house)
        deeds = [("call", "ann", "da", "key"), ("call", "ann", "da", "key"), ("call", "ann", "da", "ann"),
                 ("call", "ann", "da", "cup"), ("call", "ann", "da", "cup"), ("call", "ann", "db", "bob"),
                 ("call", "ann", "da", "")]
        rows = [((0, "key"), ["key", "cup"]), ((0, "key"), ["key", "key", "cup"]), ((0, "ann"), ["key", "ann", "cup"]),
                ((1, "cup"), ["ann", "ann"]), ((1, "cup"), []), ((1, "cup"), ["cup", "bob", "cup"]),
                ((0, "cup"), ["cup"])]
        turns = [True, False, True, True, False, False, True]
        for deed, (gate, names), turn in zip(deeds, rows, turns):
            self.assertEqual(told(house, stand, deed), names)
            self.assertIs(is_turn(house, stand, deed), turn)
            stand = done(house, stand, deed)
            self.assertEqual(stand[0], (gate,))
        self.assertEqual(stand[1][0], ("ann", ("ann", "bob", "cup", "da", "db", "key")))
        self.assertEqual(stand[1][1], ("bob", ("bob",)))

    def test_only_the_gate_that_is_called_changes(self):
        gates = [Gate(2, [door], ["cup"], [(door, 0, "", 1, False, ("cup",))]) for door in ["dc", "da", "db"]]
        house = House(["ann"], ["cup"], gates, [("ann", "da")])
        stand = done(house, first_stand(house), ("call", "ann", "da", ""))
        self.assertEqual(stand, (((0, ""), (1, ""), (0, "")), (("ann", ("ann", "cup", "da")),)))

    def test_a_hand(self):
        house = keeper()
        stand = first_stand(house)
        deed = ("hand", "ann", "bob", "key")
        self.assertEqual(done(house, stand, deed), (((0, ""),), (stand[1][0], ("bob", ("bob", "key")))))
        self.assertEqual(told(house, stand, deed), [])
        self.assertIs(is_turn(house, stand, deed), False)
        for name in ["ann", "bob", "da"]:
            self.assertEqual(done(house, stand, ("hand", "ann", "bob", name))[1][1],
                             ("bob", tuple(sorted({"bob", name}))))

    def test_a_throw(self):
        house = market()
        self.assertEqual(done(house, BEGIN, ("throw", "buy")), (((1, ""), (0, "")), BEGIN[1]))
        self.assertEqual(told(house, BEGIN, ("throw", "buy")), ["cup"])
        self.assertIs(is_turn(house, BEGIN, ("throw", "buy")), True)
        self.assertEqual(done(house, BOUGHT, ("throw", "buy")), BOUGHT)
        self.assertEqual(told(house, BOUGHT, ("throw", "buy")), [])
        self.assertIs(is_turn(house, BOUGHT, ("throw", "buy")), False)
        kept = (((1, ""), (0, "cup")), BEGIN[1])
        self.assertEqual(done(house, kept, ("throw", "get")), kept)
        self.assertEqual(told(house, kept, ("throw", "get")), ["cup"])
        self.assertEqual(done(house, kept, ("throw", "ask")), kept)

    def test_against_the_plain_way(self):
        for seed in range(40):
            house = random_house(seed)
            chance = random.Random(seed)
            stand = first_stand(house)
            for _ in range(6):
                behind = plain_deeds(house, stand, house.guests())
                self.assertEqual(deeds_at(house, stand, tuple(house.guests())), sorted(behind))
                for deed, other in behind.items():
                    self.assertEqual(done(house, stand, deed), other)
                    self.assertIs(is_turn(house, stand, deed), other[0] != stand[0])
                stand = behind[chance.choice(sorted(behind))] if behind else stand
                self.assertIs(is_stand(house, stand), True)


class RefusedTest(unittest.TestCase):
    def refused(self, kind, name, deed, stand=BEGIN):
        for act in [done, told]:
            with self.assertRaises(kind) as caught:
                act(market(), stand, deed)
            self.assertIs(type(caught.exception), kind, repr(deed))
            if name is not None:
                self.assertEqual([*vars(caught.exception).values()], [name], repr(deed))
        self.assertIs(can_do(market(), stand, deed), False)
        self.assertIs(is_turn(market(), stand, deed), False)

    def test_no_deed(self):
        for deed in junk() + [["call", "ann", "buy", ""], ("hand", "ann", "ann", "buy"), ("call", "ann", "buy"),
                              ("hand", "ann", "bob", ""), ("throw", "buy", ""), ("call", "zoe", "zoe", None)]:
            self.refused(NoDeed, None, deed)

    def test_no_guest(self):
        self.refused(NoGuest, "zoe", ("call", "zoe", "moe", "noe"))
        self.refused(NoGuest, "buy", ("call", "buy", "buy", ""))
        self.refused(NoGuest, "cup", ("hand", "cup", "zoe", "moe"))
        self.refused(NoGuest, "cup", ("hand", "bob", "cup", "zoe"))
        self.refused(NoGuest, "put", ("hand", "ann", "put", "zoe"))

    def test_no_door(self):
        self.refused(NoDoor, "cup", ("call", "bob", "cup", "zoe"))
        self.refused(NoDoor, "ann", ("call", "ann", "ann", ""))
        self.refused(NoDoor, "zoe", ("call", "ann", "zoe", "moe"))
        self.refused(NoDoor, "zoe", ("throw", "zoe"))
        self.refused(NoDoor, "ann", ("throw", "ann"))

    def test_not_held(self):
        self.refused(NotHeld, "get", ("call", "ann", "get", "cup"))
        self.refused(NotHeld, "cup", ("call", "ann", "buy", "cup"))
        self.refused(NotHeld, "zoe", ("call", "ann", "buy", "zoe"))
        self.refused(NotHeld, "bob", ("call", "ann", "buy", "bob"))
        self.refused(NotHeld, "buy", ("call", "bob", "buy", ""))
        self.refused(NotHeld, "bob", ("hand", "ann", "bob", "cup"))
        self.refused(NotHeld, "bob", ("hand", "ann", "bob", "ann"))
        stand = (BEGIN[0], (BEGIN[1][0], ("bob", ("ann", "bob"))))
        self.refused(NotHeld, "cup", ("hand", "bob", "ann", "cup"), stand)
        self.refused(NotHeld, "zoe", ("hand", "bob", "ann", "zoe"), stand)

    def test_any_value_is_told_as_a_truth(self):
        for base in [("call", "ann", "put", "ann"), ("hand", "ann", "bob", "buy"), ("throw", "buy")]:
            for deed in otherwise(base):
                self.assertIsInstance(can_do(market(), BOUGHT, deed), bool)
                self.assertIsInstance(is_turn(market(), BOUGHT, deed), bool)
                self.assertFalse(can_do(market(), BOUGHT, deed) and not is_deed(deed))


class LedTest(unittest.TestCase):
    def test_led(self):
        row = [("call", "ann", "buy", ""), ("call", "ann", "put", "cup"), ("call", "bob", "get", ""), ("throw", "ask")]
        stands = led(market(), BEGIN, row)
        self.assertEqual(stands[:2], [BEGIN, BOUGHT])
        self.assertEqual(len(stands), 5)
        self.assertEqual(stands[3], (((1, ""), (0, "cup")), (BOUGHT[1][0], ("bob", ("bob", "cup", "get")))))
        self.assertEqual(stands[4], stands[3])
        self.assertEqual(led(market(), BEGIN, []), [BEGIN])
        stands.clear()
        self.assertEqual(len(row), 4)
        self.assertEqual(led(market(), BEGIN, row)[1], BOUGHT)

    def test_not_done(self):
        fine = ("call", "ann", "buy", "")
        for index in range(3):
            for deed in junk() + [("call", "bob", "buy", ""), ("hand", "ann", "bob", "ann"), ("throw", "cup")]:
                with self.assertRaises(NotDone) as caught:
                    led(market(), BEGIN, [fine] * index + [deed, None, fine])
                self.assertEqual(caught.exception.index, index)

    def test_a_deed_is_done_behind_those_ahead(self):
        row = [("call", "ann", "buy", ""), ("call", "ann", "put", "cup")]
        self.assertEqual(len(led(market(), BEGIN, row)), 3)
        with self.assertRaises(NotDone) as caught:
            led(market(), BEGIN, row[::-1])
        self.assertEqual(caught.exception.index, 0)


class DeedsAtTest(unittest.TestCase):
    def test_all_of_them_ascending(self):
        stand = (BEGIN[0], (("ann", ("ann", "bob", "buy")), ("bob", ("bob", "cup"))))
        self.assertEqual(deeds_at(market(), stand, ("ann", "bob")), [
            ("call", "ann", "buy", ""), ("call", "ann", "buy", "ann"), ("call", "ann", "buy", "bob"),
            ("call", "ann", "buy", "buy"), ("hand", "ann", "bob", "ann"), ("hand", "ann", "bob", "bob"),
            ("hand", "ann", "bob", "buy")])
        self.assertEqual(deeds_at(market(), stand, ("bob",)), [])

    def test_also_those_that_change_nothing(self):
        self.assertEqual(deeds_at(market(), BEGIN, ("bob",)),
                         [("call", "bob", "get", ""), ("call", "bob", "get", "bob"), ("call", "bob", "get", "get")])

    def test_nobody_acts(self):
        self.assertEqual(deeds_at(market(), BEGIN, ()), [])

    def test_what_is_returned_may_be_changed(self):
        deeds_at(market(), BEGIN, ("bob",)).clear()
        self.assertEqual(len(deeds_at(market(), BEGIN, ("bob",))), 3)


if __name__ == "__main__":
    unittest.main()
