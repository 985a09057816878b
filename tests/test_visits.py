import random
import time
import unittest

from letinside.doing import deeds_at, led
from letinside.errors import NotDone
from letinside.gates import Gate
from letinside.houses import House
from letinside.reach import can
from letinside.stands import first_stand, has
from letinside.visits import alone, asked_can, is_mislead, is_visit_play, made, mislead, misled, visit_play
from tests.coding import random_code
from tests.samples import junk, otherwise, plain_has, shuffled
from tests.test_nodes import many_nodes
from tests.test_reach import wishes
from tests.visiting import STEP, hall, hall_visit, plain_begin, plain_grown_states, plain_made, plain_states, plain_step
from tests.visiting import post_visit, random_visit

END = ("end", ())
PUT = [("call", "ann", "put", "out"), STEP, STEP]


def lone(code, things, house=None, acting=(), asker="ann"):
    """A visit in the hall, or in another house."""
    return (house or hall(), acting, code, things, asker)


def many_plays(visit, seed):
    """Lists of entries done at random, and how they go on with what cannot be done."""
    chance = random.Random(seed)
    found = [[]]
    for _ in range(6):
        state, entries = plain_begin(visit), []
        for _ in range(chance.randint(1, 8)):
            deeds = deeds_at(visit[0], state[0], visit[1])
            if state[1] is not None and (chance.random() < 0.4 or not deeds):
                entries.append(STEP)
                state = plain_step(visit, state)[0]
            elif deeds:
                entries.append(chance.choice(deeds))
                state = (led(visit[0], state[0], entries[-1:])[-1],) + state[1:]
        found.append(entries)
        found.append(entries + [chance.choice([STEP, ("step",) * 2, "step", ["step"], ("throw", visit[0].doors()[0]),
                                               None,
                                               ("hand", "ann", "ann", "ann"), ("call", "ann", "da", "db")])] + [STEP])
        found.append(entries[1:])
    return found


class MadeTest(unittest.TestCase):
    def check_refused(self, visit, entries, index):
        with self.assertRaises(NotDone) as caught:
            made(visit, entries)
        self.assertEqual(caught.exception.index, index)
        self.assertIs(type(caught.exception.index), int)

    def test_of_the_hall(self):
        visit = hall_visit()
        self.assertEqual(made(visit, []), [])
        self.assertEqual(made(visit, [("call", "ann", "put", "out")]), [])
        self.assertEqual(made(visit, PUT[:2]), [("get", "")])
        self.assertEqual(made(visit, PUT), [("get", ""), ("out", "")])
        self.assertEqual(made(visit, PUT + [STEP]), [("get", ""), ("out", "")])
        self.assertEqual(made(visit, [STEP, STEP, ("call", "ann", "out", "")]), [("get", "")])
        self.assertEqual(made(visit, [("call", "ann", "put", "ann"), STEP, STEP]), [("get", "")])

    def test_what_cannot_be_done(self):
        visit = hall_visit()
        self.check_refused(visit, PUT + [STEP, STEP], 4)
        self.check_refused(visit, [STEP, STEP, STEP], 2)
        self.check_refused(visit, [("call", "ann", "put", "cup")], 0)
        self.check_refused(visit, [STEP, ("call", "ann", "get", "")], 1)
        self.check_refused(visit, [("call", "ann", "put", "out"), ("throw", "out"), STEP], 1)
        self.check_refused(visit, [("call", "zed", "put", "")], 0)
        self.check_refused(visit[:1] + ((),) + visit[2:], PUT, 0)
        self.check_refused(visit, [STEP, STEP, STEP, STEP], 2)
        for thing in [("step", ""), ["step"], "step", ("Step",), (), None, True, ("step", "step"), (("step",),)]:
            self.check_refused(visit, [STEP, thing], 1)

    def test_who_does_not_act_does_nothing(self):
        house = House(["ann", "bob"], [], [], [("ann", "bob"), ("bob", "ann")])
        visit = lone(END, {}, house, ("ann",), "bob")
        self.assertEqual(made(visit, [("hand", "ann", "bob", "ann"), STEP]), [])
        self.check_refused(visit, [STEP, ("hand", "bob", "ann", "ann")], 1)

    def test_any_value(self):
        visit = hall_visit()
        for thing in junk():
            if type(thing) is not list:
                self.check_refused(visit, thing, 0)
            elif thing:
                self.check_refused(visit, thing, 0)
            self.check_refused(visit, PUT[:2] + [thing, STEP], 2)

    def test_with_an_entry_otherwise(self):
        visit = hall_visit()
        for thing in otherwise(PUT + [STEP]):
            calls, at = plain_made(visit, thing)
            if calls is None:
                self.check_refused(visit, thing, at)
            else:
                self.assertEqual(made(visit, thing), calls, repr(thing))

    def test_of_other_visits(self):
        refused = 0
        for seed in range(120):
            visit = random_visit(seed) if seed % 2 else post_visit(seed)
            for entries in many_plays(visit, seed):
                calls, at = plain_made(visit, entries)
                if calls is None:
                    refused += 1
                    self.check_refused(visit, entries, at)
                else:
                    self.assertEqual(made(visit, entries), calls)
        self.assertGreater(refused, 300)


class StepTest(unittest.TestCase):
    def told(self, visit, entries):
        """What the asker holds besides its own name, ann being the asker."""
        return sorted(name for name in visit[0].objects() if is_visit_play(visit, (("ann", name),), entries))

    def test_a_missing_door_and_what_is_no_door(self):
        code = ("call", "a", "b", ("x",), ("end", ("x",)), ("call", "b", "", ("y",), ("end", ("y",)), ("end", ("b",))))
        for things in [{"a": None, "b": "get"}, {"a": "cup", "b": "get"}, {"a": "ann", "b": "get"}]:
            visit = lone(code, things)
            self.assertEqual(alone(visit), [("get", "")])
            self.assertEqual(made(visit, [STEP]), [])
            self.assertEqual(made(visit, [STEP, STEP, STEP]), [("get", "")])
            self.assertEqual(self.told(visit, [STEP, STEP, STEP]), ["ann", "get", "out", "put"])
        self.assertEqual(alone(lone(code, {"a": None, "b": None})), [])

    def test_given_missing(self):
        code = ("call", "a", "b", ("x",), END, END)
        self.assertEqual(alone(lone(code, {"a": "put", "b": None})), [("put", "")])
        self.assertEqual(alone(lone(code, {"a": "put", "b": "cup"})), [("put", "cup")])
        self.assertEqual(alone(lone(("call", "a", "", ("x",), END, END), {"a": "put"})), [("put", "")])

    def test_a_door_that_tells_nothing_or_too_little(self):
        code = ("call", "a", "", ("x", "y"), ("end", ("x", "y")), ("end", ("a",)))
        rules = [("da", 0, "", 1, False, ()), ("da", 1, "", 2, False, ("cup",)), ("da", 2, "", 2, False, ("key", "cup",
                                                                                                          "ann"))]
        house = House(["ann", "bob"], ["cup", "key"], [Gate(3, ["da"], ["cup", "key", "ann"], rules)], [("bob", "da")])
        visit = (house, ("bob",), code, {"a": "da"}, "ann")
        turn = ("call", "bob", "da", "")
        self.assertEqual(self.told(visit, [STEP, STEP]), ["ann", "da"])
        self.assertEqual(self.told(visit, [turn, STEP, STEP]), ["ann", "da"])
        self.assertEqual(self.told(visit, [turn, turn, STEP, STEP]), ["ann", "cup", "key"])
        self.assertEqual(self.told(visit, [turn, turn, STEP]), ["ann"])

    def test_the_host_holds_everything(self):
        # Nobody holds any of these, the asker does not act, and what is kept is told back.
        code = ("call", "a", "b", ("x",), END, ("call", "c", "", ("y",), ("end", ("y", "c")), END))
        visit = lone(code, {"a": "put", "b": "cup", "c": "get"}, hall().with_first([]))
        self.assertEqual(alone(visit), [("put", "cup"), ("get", "")])
        self.assertEqual(self.told(visit, [STEP, STEP]), ["ann"])
        self.assertEqual(self.told(visit, [STEP, STEP, STEP]), ["ann", "cup", "get"])
        self.assertIs(asked_can(visit, (("ann", "cup"), ("ann", "get"))), True)
        self.assertIs(asked_can(visit, (("ann", "put"),)), False)

    def test_sames_are_worked_out_at_once(self):
        code = ("same", "a", "b", ("same", "a", "c", ("end", ("a",)), ("call", "a", "", ("x",), END, END)), ("end",
                                                                                                             ("c",
                                                                                                              "b")))
        both = {"a": "get", "b": "get", "c": "get"}
        self.assertEqual(self.told(lone(code, both), [STEP])[1:2], ["get"])
        self.assertEqual(made(lone(code, {**both, "c": "put"}), [STEP, STEP]), [("get", "")])
        with self.assertRaises(NotDone):
            made(lone(code, both), [STEP, STEP])
        self.assertEqual(made(lone(code, {**both, "a": None, "b": None}), [STEP]), [])
        self.assertIs(asked_can(lone(code, {**both, "a": None, "b": None}), (("ann", "get"),)), True)
        itself = ("same", "a", "a", ("end", ("b",)), END)
        self.assertIs(asked_can(lone(itself, {"a": None, "b": "get"}), (("ann", "get"),)), False)
        self.assertIs(asked_can(lone(itself, {"a": "cup", "b": "get"}), (("ann", "get"),)), True)

    def test_a_same_of_what_is_told(self):
        code = ("call", "a", "", ("x",), ("same", "x", "b", ("call", "c", "x", ("y",), END, END), END), END)
        visit = (hall(), ("ann",), code, {"a": "get", "b": "out", "c": "put"}, "ann")
        self.assertEqual(alone(visit), [("get", "")])
        self.assertEqual(misled(visit), [("get", ""), ("put", "out")])
        self.assertIsNone(mislead(visit, ("put", "put")))

    def test_alone_nobody_acts(self):
        visit = hall_visit()
        self.assertEqual(alone(visit), [("get", "")])
        for seed in range(100):
            visit = random_visit(seed)
            state, calls = plain_begin(visit), []
            while state[1] is not None:
                state, call = plain_step(visit, state)
                calls += [call] if call else []
            self.assertEqual(alone(visit), calls)


class MisledTest(unittest.TestCase):
    def check(self, visit, calls):
        """Check all that is told of the calls that a visit makes, these being all."""
        self.assertEqual(misled(visit), sorted(calls))
        house = visit[0]
        for call in [(door,
                      given) for door in house.doors()[:3] for given in [""] + house.objects()[::2]] + sorted(calls):
            play = mislead(visit, call)
            if call not in calls:
                self.assertIsNone(play)
                continue
            self.assertIs(type(play), list)
            self.assertEqual(play[-1], STEP)
            self.assertEqual(plain_made(visit, play)[0], plain_made(visit, play[:-1])[0] + [call])
            self.assertIs(is_mislead(visit, call, play), True)
            self.assertIs(is_mislead(visit, call, play[:-1]), False)

    def test_of_the_hall(self):
        self.check(hall_visit(), {("get", ""), ("put", ""), ("out", "")})
        self.check(hall_visit()[:1] + ((),) + hall_visit()[2:], {("get", "")})
        visit = hall_visit()
        self.assertIs(is_mislead(visit, ("out", ""), PUT), True)
        self.assertIs(is_mislead(visit, ("get", ""), PUT[:2]), True)
        self.assertIs(is_mislead(visit, ("get", ""), PUT), False)
        self.assertIs(is_mislead(visit, ("out", ""), PUT + [STEP]), False)
        self.assertIs(is_mislead(visit, ("out", ""), PUT + [("call", "ann", "out", "")]), False)
        self.assertIs(is_mislead(visit, ("get", ""), [STEP, STEP]), False)
        self.assertIs(is_mislead(visit, ("get", ""), []), False)

    def test_the_last_step_makes_it(self):
        code = ("call", "a", "", ("x",), END, ("call", "b", "", ("y",), END, END))
        visit = lone(code, {"a": "out", "b": None})
        self.assertIs(is_mislead(visit, ("out", ""), [STEP]), True)
        self.assertIs(is_mislead(visit, ("out", ""), [STEP, STEP]), False)
        self.assertIs(is_mislead(visit, ("out", ""), [STEP, STEP, STEP]), False)
        twice = lone(code, {"a": "out", "b": "out"})
        self.assertIs(is_mislead(twice, ("out", ""), [STEP]), True)
        self.assertIs(is_mislead(twice, ("out", ""), [STEP, STEP]), True)
        self.assertIs(is_mislead(twice, ("out", ""), [STEP, STEP, STEP]), False)

    def test_any_call_and_any_thing(self):
        visit = lone(("call", "a", "", ("x",), END, END), {"a": None}, None, ("ann",))
        for thing in junk() + [("get", None), ["get", ""], ("get",), ("get", "", ""), (None, ""), (None, None), ("cup",
                                                                                                                 "")]:
            for one in [visit, hall_visit()]:
                self.assertIsNone(mislead(one, thing))
                self.assertIs(is_mislead(one, thing, PUT[:2]), False)
                self.assertIs(is_mislead(one, thing, [STEP]), False)
                self.assertIs(is_mislead(one, ("get", ""), thing), False)
                self.assertIs(is_mislead(one, thing, thing), False)
                self.assertIs(is_mislead(one, ("get", ""), [thing, STEP]), False)
                self.assertIs(is_mislead(one, ("get", ""), [STEP, thing]), False)
            self.assertIs(is_mislead(one, ("get", ""), [STEP]), True)

    def test_with_an_entry_otherwise(self):
        visit = hall_visit()
        for thing in otherwise(PUT):
            calls = plain_made(visit, thing)[0]
            right = calls is not None and thing[-1:] == [STEP] and calls[-1:] == [("out", "")]
            right = right and len(plain_made(visit, thing[:-1])[0]) < len(calls)
            self.assertIs(is_mislead(visit, ("out", ""), thing), right, repr(thing))

    def test_of_other_visits(self):
        counts = []
        for seed in range(200):
            visit = random_visit(seed) if seed % 2 else post_visit(seed)
            found = plain_grown_states(visit, 80)
            if found is not None:
                counts.append(len(found[1] - set(alone(visit))))
                self.check(visit, found[1])
        self.assertGreater(len([1 for many in counts if many > 0]), 20)
        self.assertGreater(len(counts), 90)

    def test_against_all_states(self):
        many = 0
        for seed in range(400, 520):
            visit = random_visit(seed, 2, 3, 2)
            found = plain_states(visit, 400)
            if found is not None:
                many += 1
                self.check(visit, found[1])
        self.assertGreater(many, 60)


class AskedTest(unittest.TestCase):
    def check(self, visit, wish, expected):
        """Check all that is told of a wish that can come in a visit, or cannot."""
        self.assertIs(asked_can(visit, wish), expected, (visit, wish))
        play = visit_play(visit, wish)
        if not expected:
            self.assertIsNone(play)
            return
        self.assertIs(type(play), list)
        calls, stand = plain_made(visit, play)
        self.assertIsNotNone(calls)
        self.assertTrue(plain_has(stand, wish))
        self.assertIs(is_visit_play(visit, wish, play), True)
        for at, entry in enumerate(play):
            self.assertIs(is_visit_play(visit, wish, play[:at] + [entry, None] + play[at:]), False)

    def test_of_the_hall(self):
        visit = hall_visit()
        self.check(visit, (("ann", "get"),), False)
        self.check(visit, (("ann", "cup"),), False)
        self.check(visit, (("ann", "put"),), True)
        self.check(visit, (("ann", "ann"),), True)
        self.assertEqual(plain_made(visit, visit_play(visit, (("ann", "put"),)))[0], [])

    def test_what_the_end_tells_goes_to_the_asker(self):
        house = House(["ann", "bob", "cat"], ["cup", "key"], [], [("ann", "bob"), ("bob", "cat")])
        for acting in [(), ("bob",), ("ann", "bob", "cat")]:
            visit = (house, acting, ("end", ("a", "b", "a")), {"a": "cup", "b": None}, "ann")
            self.check(visit, (("ann", "cup"),), True)
            self.check(visit, (("ann", "key"),), False)
            self.check(visit, (("cat", "cup"),), len(acting) == 3)
        passed = (house, ("ann", "bob"), ("end", ("a",)), {"a": "cup"}, "ann")
        self.check(passed, (("ann", "cup"), ("cat", "cup")), True)
        self.check(passed, (("ann", "key"),), False)
        self.check((house, ("bob",), ("end", ("a",)), {"a": "cup"}, "cat"), (("ann", "cup"),), False)

    def test_what_is_told_to_the_code_goes_to_its_words_alone(self):
        house = House(["ann"], ["cup"], [Gate(1, ["da"], ["cup"], [("da", 0, "", 0, False, ("cup",))])], [])
        code = ("call", "a", "", ("x",), ("call", "a", "", ("y",), END, END), END)
        self.check((house, ("ann",), code, {"a": "da"}, "ann"), (("ann", "cup"),), False)
        code = ("call", "a", "", ("x",), ("call", "a", "", ("y",), ("end", ("x",)), END), END)
        self.check((house, (), code, {"a": "da"}, "ann"), (("ann", "cup"),), True)

    def test_a_wish_ahead_of_the_first_step_and_behind_the_end(self):
        rules = [("da", 0, "", 1, False, ("cup",)), ("db", 1, "", 2, False, ("key",)), ("dc", 0, "", 2, False, ("da",))]
        house = House(["ann"], ["cup", "key"], [Gate(3, ["da", "db", "dc"], ["cup", "key", "da"], rules)], [("ann",
                                                                                                             "da")])
        locking = (house, ("ann",), ("call", "c", "", ("x",), ("end", ("c",)), END), {"c": "dc"}, "ann")
        self.check(locking, (("ann", "cup"),), True)
        self.check(locking, (("ann", "dc"),), True)
        self.check(locking, (("ann", "cup"), ("ann", "dc")), False)
        opening = (house, ("ann",), ("end", ("b",)), {"b": "db"}, "ann")
        self.check(opening, (("ann", "key"),), True)
        play = visit_play(opening, (("ann", "key"),))
        self.assertEqual(play[-1], ("call", "ann", "db", ""))
        self.assertEqual(play.count(STEP), 1)

    def test_of_other_visits(self):
        told = []
        for seed in range(220):
            visit = random_visit(seed) if seed % 3 else post_visit(seed)
            found = plain_grown_states(visit, 40)
            if found is not None:
                for wish in wishes(visit[0], 2)[seed % 7::23]:
                    told.append(any(plain_has(stand, wish) for stand in found[0]))
                    self.check(visit, wish, told[-1])
        self.assertGreater(told.count(True), 100)
        self.assertGreater(told.count(False), 100)

    def test_against_all_states(self):
        for seed in range(600, 680):
            visit = random_visit(seed, 2, 3, 2)
            found = plain_states(visit, 300)
            if found is not None:
                for wish in wishes(visit[0], 1):
                    self.check(visit, wish, any(plain_has(stand, wish) for stand in found[0]))

    def test_is_visit_play_of_any_value(self):
        visit = hall_visit()
        for thing in junk():
            self.assertIs(is_visit_play(visit, (("ann", "put"),), thing), thing == [])
            self.assertIs(is_visit_play(visit, (("ann", "cup"),), thing), False)
            self.assertIs(is_visit_play(visit, (("ann", "put"),), [STEP, thing]), False)
        for seed in range(60):
            visit = random_visit(seed)
            for entries in many_plays(visit, seed):
                calls, stand = plain_made(visit, entries)
                for wish in wishes(visit[0], 1)[seed % 5::9]:
                    self.assertIs(is_visit_play(visit, wish, entries), calls is not None and plain_has(stand, wish))
                self.assertIs(is_visit_play(visit, (("ann", "ann"),), tuple(entries)), False)

    def test_without_steps_as_in_the_house(self):
        for seed in range(60):
            house, acting, _, _, _ = random_visit(seed)
            for wish in wishes(house, 1)[::3]:
                self.assertIs(asked_can((house, acting, END, {}, house.guests()[0]), wish), can(house, acting, wish))


class AllTest(unittest.TestCase):
    def test_a_house_of_many_nodes(self):
        began = time.monotonic()
        house = many_nodes()
        for seed in range(3):
            code = random_code(seed + 70, ("wa", "wb", "wc", "wd"), 4, 3)
            things = {"wa": "get", "wb": "flip", "wc": "tick", "wd": "put"}
            things = {word: things[word] for word in things if word in repr(code)}
            visit = (house, ("ann", "cat", "dan"), code, things, "bob")
            for call in misled(visit)[::3]:
                self.assertIs(is_mislead(visit, call, mislead(visit, call)), True)
            for wish in [(("bob", "cup"),), (("bob", "get"),), (("ann", "put"), ("dan", "key"))]:
                play = visit_play(visit, wish)
                self.assertIs(play is not None, asked_can(visit, wish))
                if play is not None:
                    self.assertIs(is_visit_play(visit, wish, play), True)
        self.assertLess(time.monotonic() - began, 60)

    def test_equal_visits_in_whatever_order(self):
        for seed in range(60):
            house, acting, code, things, asker = random_visit(seed)
            visit = (house, acting, code, things, asker)
            other = (shuffled(house, seed), acting, code, dict(sorted(things.items(), reverse=True)), asker)
            self.assertEqual(misled(visit), misled(other))
            self.assertEqual(alone(visit), alone(other))
            for call in misled(visit):
                self.assertEqual(mislead(visit, call), mislead(other, call))
            for wish in wishes(house, 1)[::4]:
                self.assertEqual(visit_play(visit, wish), visit_play(other, wish))

    def test_arguments_stay_and_results_may_be_changed(self):
        visit, entries = hall_visit(), list(PUT)
        told = [made(visit, entries), alone(visit), misled(visit), mislead(visit, ("out", "")), visit_play(visit,
                                                                                                           (("ann",
                                                                                                             "out"),))]
        for row in [made(visit, entries), alone(visit), misled(visit), mislead(visit, ("out", "")),
                    visit_play(visit, (("ann", "out"),))]:
            row.append(1)
        self.assertEqual([made(visit, entries), alone(visit), misled(visit), mislead(visit, ("out", "")),
                          visit_play(visit, (("ann", "out"),))], told)
        self.assertEqual((visit, entries), (hall_visit(), PUT))
        self.assertTrue(has(first_stand(visit[0]), (("ann", "out"),)))


if __name__ == "__main__":
    unittest.main()
