"""Visits, and a second, plain way to work out what comes of them, for the tests."""

import random

from letinside.gates import Gate
from letinside.houses import House
from tests.coding import plain_letter, random_code
from tests.samples import plain_deeds, plain_first, plain_grown, plain_held, plain_next, post, random_gate
from tests.samples import random_house

STEP = ("step",)


def hall():
    """The house of the document for visits."""
    safe = Gate(1, ["open", "out"], ["cup"], [("open", 0, "cup", 0, False, ()), ("out", 0, "", 0, False, ())])
    return House(["ann"], ["cup"], [post(), safe], [("ann", "put"), ("ann", "out")])


def hall_visit():
    """The visit of the document."""
    code = ("call", "get", "", ("it",), ("call", "it", "", ("x",), ("end", ()), ("end", ("it",))), ("end", ()))
    return (hall(), ("ann",), code, {"get": "get"}, "ann")


def random_visit(seed, most_guests=3, most_doors=4, calls=3):
    """A visit that depends on the seed alone."""
    chance = random.Random(seed)
    house = random_house(seed, most_guests, 2, most_doors)
    acting = tuple(guest for guest in house.guests() if chance.random() < 0.7)
    code = random_code(seed, ("wa", "wb", "wc", "wd")[:chance.randint(1, 4)], calls, 1, 1 + seed % 2)
    things = {}
    for word in plain_letter(code):
        things[word] = chance.choice(house.doors() * 3 + house.objects() + [None])
    return (house, acting, code, things, chance.choice(house.guests()))


def post_visit(seed):
    """A visit of code that gets from the post what guests have put there, and calls it."""
    chance = random.Random(seed)
    gate = random_gate(chance, 2, ["da", "db"], ["cup", "da"], False)
    first = [("ann", "put"), ("ann", chance.choice(["da", "db"])), ("bob", chance.choice(["put", "get", "db"])),
             ("bob", "key")]
    house = House(["ann", "bob"], ["cup", "key"], [gate, post()], first)
    inner = random_code(seed, ("it", "wb", "wc"), 2, 1, 1)
    again = ("call", "it", chance.choice(["", "it"]), ("on",), inner, ("end", ("it",)))
    code = ("call", "wa", "", ("it",), again, ("end", ()))
    table = {"wa": "get", "wb": chance.choice(["da", "db"]), "wc": chance.choice(["put", "cup", None])}
    things = {word: table[word] for word in plain_letter(code)}
    return (house, chance.choice([("ann",), ("ann", "bob")]), code, things, chance.choice(["ann", "bob"]))


def plain_come(code, things):
    """The next call or end, sames being worked out."""
    while code[0] == "same":
        one, other = things[code[1]], things[code[2]]
        code = code[3] if one is not None and one == other else code[4]
    return code


def plain_door_call(house, gates, door, given):
    """The gates behind a call and the names told, from the rules alone."""
    for number, gate in enumerate(house.gates()):
        kind = given if given == "" or given in gate.closet() else "?"
        state, kept = gates[number]
        for rule in gate.rules():
            if rule[:3] == (door, state, kind):
                words = {"+given": given, "+kept": kept}
                told = [words.get(word, word) for word in rule[5]]
                later = (rule[3], given if rule[4] else kept)
                return (gates[:number] + (later,) + gates[number + 1:], [name for name in told if name != ""])
    return (gates, [])


def plain_step(visit, state):
    """The state (stand, code, things) behind a step, and the call made, or None; the code is None at its end."""
    house, _, _, _, asker = visit
    stand, code, things = state
    here = plain_come(code, dict(things))
    words = dict(things)
    if here[0] == "end":
        held = {guest: set(names) for guest, names in stand[1]}
        names = [words[word] for word in here[1] if words[word] is not None]
        return (((stand[0], plain_held(held, asker, names)), None, ()), None)
    door = words[here[1]]
    given = words[here[2]] if here[2] else None
    gates, told, call = stand[0], [], None
    if door in house.doors():
        call = (door, given or "")
        gates, told = plain_door_call(house, gates, *call)
    if len(told) >= len(here[3]):
        words.update(zip(here[3], told))
        code = here[4]
    else:
        code = here[5]
    return (((gates, stand[1]), code, tuple(sorted(words.items()))), call)


def plain_begin(visit):
    """The state at first."""
    return (plain_first(visit[0]), visit[2], tuple(sorted(visit[3].items())))


def plain_made(visit, entries):
    """The calls made and the stand at the end, or the index of what cannot be done."""
    if type(entries) is not list:
        return (None, 0)
    state, calls = plain_begin(visit), []
    for index, entry in enumerate(entries):
        if type(entry) is not tuple or not all(type(part) is str for part in entry):
            return (None, index)
        if entry == STEP and state[1] is not None:
            state, call = plain_step(visit, state)
            calls += [call] if call else []
        else:
            behind = plain_deeds(visit[0], state[0], visit[1])
            if entry not in behind:
                return (None, index)
            state = (behind[entry],) + state[1:]
    return (calls, state[0])


def plain_states(visit, most):
    """All states that any entries lead to, and all calls made, or None if there are too many states."""
    rest, seen, calls = [plain_begin(visit)], set(), set()
    while rest:
        state = rest.pop()
        if state in seen:
            continue
        seen.add(state)
        if len(seen) > most:
            return None
        rest += [(behind,) + state[1:] for behind in plain_deeds(visit[0], state[0], visit[1]).values()]
        if state[1] is not None:
            behind, call = plain_step(visit, state)
            calls |= {call} - {None}
            rest.append(behind)
    return ({state[0] for state in seen}, calls)


def plain_grown_states(visit, most):
    """All grown stands that turns and steps and growing lead to, and all calls made, or None if there are too many."""
    house, acting = visit[:2]
    begin = plain_begin(visit)
    rest, seen, calls = [(plain_grown(house, begin[0], acting),) + begin[1:]], set(), set()
    further = {}
    while rest:
        state = rest.pop()
        if state in seen:
            continue
        seen.add(state)
        if len(seen) > most:
            return None
        if state[0] not in further:
            further[state[0]] = plain_next(house, state[0], acting)
        rest += [(behind,) + state[1:] for behind in further[state[0]]]
        if state[1] is not None:
            behind, call = plain_step(visit, state)
            calls |= {call} - {None}
            rest.append((plain_grown(house, behind[0], acting),) + behind[1:])
    return ({state[0] for state in seen}, calls)
