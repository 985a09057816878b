import unittest

from letinside.doing import deeds_at, done, is_turn, led
from letinside.gates import Gate
from letinside.growing import grown, growth, is_grown, lots
from letinside.houses import House
from letinside.stands import first_stand, within
from tests.samples import market, plain_deeds, plain_grown, random_house, shuffled


def line():
    """A house in which a name goes from hand to hand, and a door tells a door that tells a thing."""
    rules = [("da", 0, "", 0, False, ("db",)), ("db", 0, "cat", 0, False, ("cup",)), ("db", 0, "", 1, False, ("key",))]
    return House(["ann", "bob", "cat"], ["cup", "key"], [Gate(2, ["da", "db"], ["cat", "db", "cup", "key"], rules)],
                 [("ann", "bob"), ("bob", "cat"), ("cat", "da")])


def groups(house):
    """All ascending tuples of guests of a house."""
    found = [()]
    for guest in house.guests():
        found = found + [acting + (guest,) for acting in found]
    return found


class GrownTest(unittest.TestCase):
    def check_growth(self, house, stand, acting):
        play = growth(house, stand, acting)
        end = grown(house, stand, acting)
        stands = led(house, stand, play)
        self.assertEqual(stands[-1], end)
        for at, deed in enumerate(play):
            self.assertIn(deed, deeds_at(house, stands[at], acting))
            self.assertIs(is_turn(house, stands[at], deed), False)
        return end

    def test_all_that_is_no_turn(self):
        house = line()
        begin = first_stand(house)
        end = self.check_growth(house, begin, ("ann", "bob", "cat"))
        names = ("ann", "bob", "cat", "cup", "da", "db")
        self.assertEqual(end, (((0, ""),), (("ann", names), ("bob", names), ("cat", names))))

    def test_only_who_acts_does_anything(self):
        house = line()
        begin = first_stand(house)
        self.assertEqual(grown(house, begin, ()), begin)
        self.assertEqual(growth(house, begin, ()), [])
        self.assertEqual(grown(house, begin, ("ann",))[1],
                         (("ann", ("ann", "bob")), ("bob", ("ann", "bob", "cat")), ("cat", ("cat", "da"))))
        self.assertEqual(grown(house, begin, ("cat",))[1],
                         (("ann", ("ann", "bob")), ("bob", ("bob", "cat")), ("cat", ("cat", "cup", "da", "db"))))

    def test_no_turn_is_done_and_no_throw(self):
        rules = [("da", 0, "", 1, False, ("cup",)), ("da", 0, "?", 0, True, ("key",))]
        gate = Gate(2, ["da", "db"], ["cup", "key"], rules)
        house = House(["ann"], ["cup", "key"], [gate], [("ann", "da")])
        begin = first_stand(house)
        self.assertIs(is_grown(house, begin, ("ann",)), True)
        kept = done(house, begin, ("call", "ann", "da", "ann"))
        self.assertEqual(kept, (((0, "ann"),), (("ann", ("ann", "da", "key")),)))

    def test_what_is_kept_already_may_be_given_anew(self):
        gate = Gate(1, ["da"], ["cup"], [("da", 0, "?", 0, True, ("cup",))])
        house = House(["ann"], ["cup"], [gate], [("ann", "da")])
        kept = (((0, "ann"),), first_stand(house)[1])
        self.assertEqual(grown(house, kept, ("ann",)), (((0, "ann"),), (("ann", ("ann", "cup", "da")),)))
        self.assertEqual(growth(house, kept, ("ann",)), [("call", "ann", "da", "ann")])
        self.assertIs(is_grown(house, kept, ("ann",)), False)

    def test_other_houses(self):
        for seed in range(120):
            house = random_house(seed)
            for acting in groups(house):
                begin = first_stand(house)
                end = self.check_growth(house, begin, acting)
                self.assertEqual(end, plain_grown(house, begin, acting))
                self.assertIs(is_grown(house, end, acting), True)
                self.assertEqual(growth(house, end, acting), [])
                self.assertIs(is_grown(house, begin, acting), begin == end)
                for deed, behind in plain_deeds(house, end, acting).items():
                    self.assertTrue(behind == end or is_turn(house, end, deed))

    def test_bars_nothing_later(self):
        for seed in range(60):
            house = random_house(seed)
            acting = tuple(house.guests())
            begin = first_stand(house)
            end = grown(house, begin, acting)
            self.assertIs(within(begin, end), True)
            for deed, behind in plain_deeds(house, begin, acting).items():
                self.assertIs(within(behind, done(house, end, deed)), True)

    def test_equal_houses_in_whatever_order(self):
        for seed in range(60):
            house, other = random_house(seed), shuffled(random_house(seed), seed)
            self.assertEqual(house, other)
            begin, acting = first_stand(house), tuple(house.guests())
            self.assertEqual(growth(house, begin, acting), growth(other, begin, acting))
            self.assertEqual(grown(house, begin, acting), grown(other, begin, acting))

    def test_what_is_returned_may_be_changed(self):
        house = line()
        begin, acting = first_stand(house), ("ann", "bob")
        play = growth(house, begin, acting)
        play.clear()
        self.assertEqual(led(house, begin, growth(house, begin, acting))[-1], grown(house, begin, acting))
        lots(house, begin, acting)[0].clear()
        self.assertEqual(lots(house, begin, acting), [["ann", "bob"]])


class LotsTest(unittest.TestCase):
    def test_lots(self):
        house = line()
        begin = first_stand(house)
        self.assertEqual(lots(house, begin, ("ann", "bob", "cat")), [["ann", "bob", "cat"]])
        self.assertEqual(lots(house, begin, ("bob", "cat")), [["bob", "cat"]])
        self.assertEqual(lots(house, begin, ()), [])
        self.assertEqual(lots(house, begin, ("ann", "cat")), [["ann"], ["cat"]])
        self.assertEqual(lots(market(), first_stand(market()), ("ann", "bob")), [["ann"], ["bob"]])

    def test_two_of_one_lot_hold_the_same(self):
        for seed in range(120):
            house = random_house(seed)
            for acting in groups(house):
                begin = first_stand(house)
                held = dict(plain_grown(house, begin, acting)[1])
                found = lots(house, begin, acting)
                self.assertEqual(sorted(guest for lot in found for guest in lot), list(acting))
                self.assertEqual(found, sorted(sorted(lot) for lot in found))
                where = {guest: at for at, lot in enumerate(found) for guest in lot}
                for one in acting:
                    for other in acting:
                        if where[one] == where[other]:
                            self.assertIn(one, held[other])
                        else:
                            self.assertFalse(one in held[other] and other in held[one])


if __name__ == "__main__":
    unittest.main()
