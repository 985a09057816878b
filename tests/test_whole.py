"""What the document promises over the whole program, in houses that are led through all of it."""

import random
import unittest

from letinside.books import Book
from letinside.doing import can_do, deeds_at, done, is_turn, led
from letinside.ends import apart, ever, most_held
from letinside.errors import HouseError
from letinside.facets import faceted
from letinside.fences import fence, is_fence
from letinside.folding import folded_house
from letinside.gates import Gate
from letinside.growing import grown, is_grown
from letinside.houses import House
from letinside.kinds import is_deed
from letinside.latefences import is_late_fence, late_fence
from letinside.least import actor_lots, barring, bringing
from letinside.narrowed import choice_house, keeps_out, weakest
from letinside.needed import followed, idle, needed, pruned
from letinside.nodes import next_nodes, nodes, turns_to, way_to
from letinside.notation import show_deeds, show_house, show_stand, show_wish
from letinside.pairs import are_pairs, pairs
from letinside.reach import can, fewest, is_play_for, play_for
from letinside.readers import read_deeds, read_house, read_stand, read_wish
from letinside.stands import first_stand, has, is_stand, within
from letinside.throws import bars, is_late_play, late_play, latest
from letinside.views import is_parting, is_view, parting, see_same
from letinside.visits import asked_can, is_mislead, mislead, misled
from tests.samples import choice_house as choosing
from tests.samples import random_house, shuffled
from tests.test_reach import wishes
from tests.viewing import names_of, unfolded_house
from tests.visiting import random_visit


def some_house(seed):
    """A House, who acts in it, and some wishes."""
    house = random_house(seed, 3, 2, 4) if seed % 2 else choosing(seed)
    acting = tuple(house.guests())[seed % 3 // 2:]
    chance = random.Random(seed)
    return (house, acting, chance.sample(wishes(house, 2), 3))


def other_names(house):
    """A dict to other names, some of which are those of other objects."""
    names = house.objects()
    return {**dict(zip(names, names[1:] + ["zz"])), "unknown": "ann"}


def renamed(thing, names):
    """A nested list or tuple with other names, sorted where it is a stand's or a wish's."""
    if isinstance(thing, (list, tuple)):
        return type(thing)(renamed(part, names) for part in thing)
    return names.get(thing, thing) if isinstance(thing, str) else thing


class GuaranteesTest(unittest.TestCase):
    def test_growing(self):
        for seed in range(60):
            house, acting, _ = some_house(seed)
            chance = random.Random(seed)
            stand, ahead = first_stand(house), []
            for _ in range(6):
                deeds = deeds_at(house, stand, acting)
                if not deeds:
                    break
                still = [deed for deed in deeds if not is_turn(house, stand, deed)]
                more = done(house, stand, chance.choice(still)) if still else stand
                self.assertIs(within(stand, more), True)
                deed = chance.choice(deeds)
                self.assertIs(can_do(house, more, deed), True)
                self.assertIs(within(done(house, stand, deed), done(house, more, deed)), True)
                self.assertIs(within(done(house, stand, deed), done(house, grown(house, stand, acting), deed)), True)
                stand = done(house, stand, deed)
                ahead.append(deed)
            self.assertEqual(led(house, first_stand(house), ahead)[-1], stand)

    def test_reach(self):
        told = []
        for seed in range(80):
            house, acting, some = some_house(seed)
            found = nodes(house, acting)
            for wish in some:
                comes = can(house, acting, wish)
                told.append(comes)
                self.assertIs(comes, any(has(node, wish) for node in found))
                play, shut = play_for(house, acting, wish), fence(house, acting, wish)
                self.assertIs(shut is None, comes)
                self.assertIs(play is None, not comes)
                self.assertIs(is_play_for(house, acting, wish, play), comes)
                self.assertIs(is_fence(house, acting, wish, shut), not comes)
                self.assertIs(is_fence(house, acting, wish, found), not comes)
                self.assertEqual(fewest(house, acting, wish),
                                 min((turns for node, turns in turns_to(house, acting) if has(node, wish)),
                                     default=None))
                for pair in wish:
                    self.assertTrue(not comes or pair[1] in ever(house, acting)[pair[0]])
                if len(wish) == 2:
                    self.assertIs(wish in apart(house, acting),
                                  not comes and all(can(house, acting, (pair,)) for pair in wish))
            for node in found:
                self.assertIs(is_grown(house, node, acting), True)
                self.assertEqual(led(house, first_stand(house), way_to(house, acting, node))[-1], node)
                self.assertTrue(set(next_nodes(house, node, acting)) <= set(found))
            self.assertTrue(set(most_held(house, acting)) <= {node[1] for node in found})
        self.assertGreater(min(told.count(True), told.count(False)), 40)

    def test_least_lots(self):
        for seed in range(60):
            house, acting, some = some_house(seed)
            for wish in some:
                comes = can(house, acting, wish)
                for bring in bringing(house, acting, wish):
                    for bar in barring(house, acting, wish):
                        self.assertTrue(set(bring) & set(bar))
                self.assertIs(any(set(lot) <= set(acting) for lot in actor_lots(house, wish)), comes)
                more = house.with_first(house.first() + [(house.guests()[0], house.objects()[seed % 5])])
                self.assertTrue(not comes or can(more, acting, wish) and can(house, tuple(house.guests()), wish))
                for key in followed(house, acting)[::3]:
                    self.assertTrue(comes or not can(house.without_rule(key), acting, wish))
                if comes:
                    self.assertTrue(set(needed(house, acting, wish)) <= set(followed(house, acting)))
            self.assertEqual(nodes(pruned(house, acting), acting), nodes(house, acting))
            self.assertEqual(idle(pruned(house, acting), acting), [])

    def test_late_throws(self):
        kinds = set()
        for seed in range(60):
            house, acting, some = some_house(seed)
            for door in house.doors()[:2]:
                for wish in some:
                    told = latest(house, acting, door, wish)
                    kinds.add(told[0])
                    row = [bars(house, acting, door, turns, wish) for turns in range(6)]
                    self.assertEqual(row, sorted(row, reverse=True))
                    most = {"never": 6, "no": 0, "upto": 1 + told[-1] if told[0] == "upto" else None}[told[0]]
                    self.assertEqual(row.count(True), min(6, most))
                    shut, play = late_fence(house, acting, door, wish), late_play(house, acting, door, wish)
                    self.assertIs(is_late_fence(house, acting, door, wish, shut), told == ("never",))
                    self.assertIs(is_late_play(house, acting, door, 10 ** 9, wish, play), told != ("never",))
        self.assertEqual(kinds, {"never", "no", "upto"})

    def test_views(self):
        told = []
        for seed in range(80):
            house = random_house(seed, 2, 2, 3)
            house = house.with_first(house.first()[:4] + [("ann", house.doors()[0])])
            one = (house, "ann", names_of(house, "ann"))
            number = seed % len(house.gates())
            gate = house.gates()[number]
            less = gate.without_rule(gate.rules()[seed % len(gate.rules())][:3]) if gate.rules() else gate
            for other in [folded_house(house), unfolded_house(house, seed), house.with_gate(number, less)]:
                view = (other, "ann", one[2])
                self.assertIs(is_view(view), True)
                calls, found = parting(one, view), pairs(one, view)
                told.append(see_same(one, view))
                self.assertIs(found is not None and calls is None, told[-1])
                self.assertIs(are_pairs(one, view, found), told[-1])
                self.assertIs(is_parting(one, view, calls), not told[-1])
        self.assertGreater(min(told.count(True), told.count(False)), 20)


class WholeTest(unittest.TestCase):
    def test_written_and_read_back(self):
        for seed in range(50):
            house, acting, some = some_house(seed)
            again = read_house(show_house(house))
            self.assertEqual(again, house)
            self.assertEqual(nodes(again, acting), nodes(house, acting))
            for node in nodes(house, acting)[:10]:
                self.assertEqual(read_stand(show_stand(node)), node)
                self.assertIs(is_stand(house, read_stand(show_stand(node))), True)
                way = way_to(house, acting, node)
                self.assertEqual(read_deeds(show_deeds(way)), way)
                self.assertTrue(all(is_deed(deed) for deed in way))
            for wish in some:
                self.assertEqual(read_wish(show_wish(wish)), wish)
                self.assertEqual(fewest(again, acting, read_wish(show_wish(wish))), fewest(house, acting, wish))

    def test_led_through_renamings(self):
        for seed in range(50):
            house, acting, some = some_house(seed)
            names = other_names(house)
            other = house.renamed(names)
            guests = tuple(sorted(names[guest] for guest in acting))
            self.assertEqual(other.renamed({names[name]: name for name in house.objects()}), house)
            self.assertEqual(read_house(show_house(other)), other)
            self.assertEqual(len(nodes(other, guests)), len(nodes(house, acting)))
            for wish in some:
                same = tuple(sorted(renamed(wish, names)))
                self.assertEqual(fewest(other, guests, same), fewest(house, acting, wish))
                play = play_for(house, acting, wish)
                if play is not None:
                    heads = [deed[:1] + renamed(deed[1:], names) for deed in play]
                    self.assertIs(is_play_for(other, guests, same, heads), True)
                self.assertEqual(sorted(sorted(lot) for lot in renamed(barring(house, acting, wish), names)),
                                 barring(other, guests, same))

    def test_folded(self):
        for seed in range(50):
            house, acting, some = some_house(seed)
            for other in [folded_house(house), folded_house(unfolded_house(house, seed))]:
                self.assertEqual(ever(other, acting), ever(house, acting))
                self.assertEqual(most_held(other, acting), most_held(house, acting))
                for wish in some:
                    self.assertIs(can(other, acting, wish), can(house, acting, wish))
                    self.assertEqual(bringing(other, acting, wish), bringing(house, acting, wish))
            self.assertEqual(folded_house(folded_house(house)), folded_house(house))
            self.assertEqual(read_house(show_house(folded_house(house))), folded_house(house))

    def test_narrowed(self):
        kept = 0
        for seed in range(70):
            house, acting, some = some_house(seed)
            held = [pair for pair in house.first() if pair[1] in house.doors()][:2]
            if not held:
                continue
            for wish in some:
                for choice in weakest(house, acting, wish, held):
                    kept += 1
                    less = choice_house(house, held, choice)
                    self.assertIs(keeps_out(house, acting, wish, held, choice), True)
                    self.assertIs(is_fence(less, acting, wish, fence(less, acting, wish)), True)
                    book = Book(less, acting)
                    book.do(("ban", wish))
                    self.assertEqual(book.bans(), [wish])
                    self.assertEqual(read_house(show_house(less)), less)
                    self.assertIs(can(folded_house(less), acting, wish), False)
            twice = faceted(faceted(house, *held[0], "once", "zza"), held[0][0], "zza", "bare", "zzb")
            self.assertEqual(twice.doors(), sorted(house.doors() + ["zza", "zzb"]))
        self.assertGreater(kept, 60)

    def test_led_through_edits(self):
        for seed in range(40):
            house, acting, some = some_house(seed)
            chance = random.Random(seed)
            book = Book(house)
            for edit in [("act", guest) for guest in acting] + [("ban", wish) for wish in some]:
                try:
                    book.do(edit)
                except HouseError:
                    self.assertEqual(edit[0], "ban")
            for _ in range(8):
                guest, name = chance.choice(house.guests()), chance.choice(house.objects())
                try:
                    book.do(chance.choice([("give", guest, name),
                                           ("withhold",) + chance.choice(book.house.first() + [(guest, name)]),
                                           ("rest", guest), ("act", guest)]))
                except HouseError:
                    pass
                for ban in book.bans():
                    self.assertIsNone(play_for(book.house, book.acting, ban))
                for ban, found in book.margin().items():
                    for pair in found[:2]:
                        with self.assertRaises(HouseError):
                            book.trial([("give",) + pair])
                again = Book(read_house(show_house(book.house)), book.acting)
                self.assertEqual(again.trial([("ban", ban) for ban in book.bans()]), book)
            while len(book):
                book.back()
            self.assertEqual((book.house, book.acting, book.bans()), (house, (), []))

    def test_visits(self):
        for seed in range(60):
            visit = random_visit(seed)
            for call in misled(visit):
                self.assertIs(is_mislead(visit, call, mislead(visit, call)), True)
            folded = (folded_house(visit[0]),) + visit[1:]
            self.assertEqual(misled(folded), misled(visit))
            for wish in wishes(visit[0], 1)[::5]:
                self.assertIs(asked_can(folded, wish), asked_can(visit, wish))
                self.assertTrue(asked_can(visit, wish) or not can(visit[0], visit[1], wish))

    def test_equal_arguments_give_equal_results(self):
        for seed in range(30):
            house, acting, some = some_house(seed)
            other = shuffled(house, seed)
            for wish in some:
                for ask in [can, fewest, play_for, fence, bringing, barring]:
                    first = ask(house, acting, wish)
                    self.assertEqual(ask(other, acting, wish), first)
                    self.assertEqual(ask(house, acting, wish), first)
            self.assertEqual(show_house(other), show_house(house))
            self.assertEqual(Book(other, acting), Book(house, acting))

    def test_the_house_of_nothing(self):
        empty = House([], [], [], [])
        self.assertEqual(nodes(empty, ()), [((), ())])
        self.assertEqual((ever(empty, ()), most_held(empty, ()), apart(empty, ())), ({}, [()], []))
        self.assertEqual((followed(empty, ()), idle(empty, ()), pruned(empty, ())), ([], [], empty))
        self.assertEqual((folded_house(empty), read_house(show_house(empty))), (empty, empty))
        self.assertEqual((Book(empty).margin(), len(Book(empty))), ({}, 0))
        lone = House(["ann"], [], [Gate(1, ["da"], [], [])], [("ann", "da")])
        self.assertEqual(weakest(lone, ("ann",), (("ann", "da"),), [("ann", "da")]), [("known",), ("once",)])


if __name__ == "__main__":
    unittest.main()
