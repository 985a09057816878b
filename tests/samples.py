"""Values, houses and a second, plain way to work things out, for the tests."""

import random

from letinside import errors
from letinside.gates import Gate
from letinside.houses import House


def nest(many, make):
    """A value so many deep."""
    thing = make(None)
    for _ in range(many):
        thing = make(thing)
    return thing


def shop():
    return Gate(2, ["buy", "ask"], ["gold"],
                [("buy", 0, "", 1, False, ("gold",)), ("ask", 1, "?", 1, False, ("+given", "gold"))])


def post():
    return Gate(1, ["put", "get"], [], [("put", 0, "?", 0, True, ("+kept",)), ("get", 0, "", 0, False, ("+kept",))])


def market():
    """The house of the document."""
    return House(["ann", "bob"], ["cup"], [shop().renamed({"gold": "cup"}), post()],
                 [("ann", "buy"), ("ann", "put"), ("bob", "get"), ("bob", "bob")])


def market_in_other_order():
    """A House equal to the market, all given in another order and in tuples."""
    shop_too = Gate(2, ("ask", "buy"), ("cup",),
                    (("ask", 1, "?", 1, False, ("+given", "cup")), ("buy", 0, "", 1, False, ("cup",))))
    post_too = Gate(1, ("get", "put"), (),
                    (("get", 0, "", 0, False, ("+kept",)), ("put", 0, "?", 0, True, ("+kept",))))
    return House(("bob", "ann"), ("cup",), (shop_too, post_too),
                 (("bob", "get"), ("ann", "put"), ("ann", "buy"), ("ann", "put")))


def junk():
    """Values of any kind, made anew."""
    return [
        None, True, False, 0, 1, -1, 64, 10 ** 39, -10 ** 39, "", " ", "a", "ann", "Ann", "a b", "a\n", "\n", "~", "?",
        "+given", "abcdefghi", "call", [], (), {}, [[]], ((),), ["ann"], ("ann",), ("ann", "bob"), ["ann", "bob"],
        {"ann": "bob"}, {1: 2}, {("a", 1): [2]}, [None], (None,), (True,), ("ann", True), ("ann", ["bob"]),
        [("ann", "bob")], (("ann", "bob"),), (("ann", "bob"), ("ann", "cup")), ("throw",), ("throw", ["buy"]),
        ("call", "ann"), ("call", "ann", "buy", None), ("call", ["ann"], {}, "cup"), ("call", True, False, ""),
        ("hand", "ann", "bob", 0), ("hand", ("ann",), "bob", "cup"), ([], [], [], []), (("call",), "ann", "buy", ""),
        ("buy", False, ""), ("buy", 0, None), ("buy", [0], ""), (["buy"], 0, ""), ("buy", 0, {}), (1, 2, 3, 4, 5, 6),
        nest(20, lambda thing: [thing]), nest(20, lambda thing: (thing,)), nest(20, lambda thing: {"a": thing}),
        list(range(2900)), tuple(["a"] * 2900), "x" * 2900,
        shop(), market(), [shop()], (market(),), errors.Wrong(0), errors.NoDeed(), [errors.NotDone(1)],
    ]


def otherwise(thing):
    """All values like a nested tuple but for one part: exchanged, left out, doubled, or of another kind."""
    changed = [list(thing)] if isinstance(thing, tuple) else []
    if isinstance(thing, str):
        return ["zzz", "", None, [thing], 0, thing + "A"]
    if not isinstance(thing, (list, tuple)):
        return [None, True, False, -1, 99, "a", [thing], (thing,)]
    row = list(thing)
    rows = [row + [None], row + [()]]
    for at, part in enumerate(row):
        rows.append(row[:at] + row[at + 1:])
        rows.append(row[:at] + [part, part] + row[at + 1:])
        rows.extend([row[:at] + [new] + row[at + 1:] for new in otherwise(part)])
        if at > 0:
            rows.append(row[:at - 1] + [part, row[at - 1]] + row[at + 1:])
    kind = list if isinstance(thing, list) else tuple
    return changed + [kind(new) for new in rows]


GUESTS = ["ann", "bob", "cat", "dan"]
THINGS = ["cup", "key", "pen"]
DOORS = ["da", "db", "dc", "dd", "de", "df"]


def random_gate(chance, states, doors, closet, keeping):
    """A Gate with some rules, that keeps only if it may."""
    rules = []
    for door in doors:
        for state in range(states):
            for kind in ["", "?"] + closet:
                if chance.random() < 0.6:
                    words = closet + ["+kept"] + (["+given"] if kind != "" else [])
                    told = tuple([chance.choice(words) for _ in range(chance.randint(0, 2))])
                    keeps = keeping and kind != "" and chance.random() < 0.6
                    rules.append((door, state, kind, chance.randrange(states), keeps, told))
    chance.shuffle(rules)
    return Gate(states, doors, closet, rules)


def random_house(seed, most_guests=4, most_things=3, most_doors=6):
    """A House that depends on the seed alone."""
    chance = random.Random(seed)
    guests = GUESTS[:chance.randint(1, most_guests)]
    things = THINGS[:chance.randint(1, most_things)]
    doors = DOORS[:chance.randint(1, most_doors)]
    many = chance.randint(1, min(3, len(doors)))
    states = chance.choice([[[4], [3]], [[3, 4], [2, 3]], [[2, 2, 3], [1, 2, 4]]][many - 1])
    keeper = chance.randrange(many)
    objects = guests + things + doors
    gates = []
    for number in range(many):
        closet = chance.sample(objects, min(len(objects), chance.randint(0, 3)))
        gates.append(random_gate(chance, states[number], doors[number::many], closet, number == keeper))
    first = [(chance.choice(guests), chance.choice(objects)) for _ in range(chance.randint(0, 8))]
    return House(guests, things, gates, first)


def choice_house(seed):
    """A House whose gates tell one of a few names where they go on to a greater state, and never come back."""
    chance = random.Random(seed)
    guests = GUESTS[:chance.randint(1, 3)]
    doors = DOORS[:chance.randint(1, 4)]
    objects = guests + THINGS + doors
    gates = []
    for number in range(min(2, len(doors))):
        closet = chance.sample(objects, 4)
        rules = [(door, state, kind, chance.randint(state + 1, 2), False, (chance.choice(closet),))
                 for door in doors[number::2] for state in range(2) for kind in ["", "?"] + closet
                 if chance.random() < 0.5]
        gates.append(Gate(3, doors[number::2], closet, rules))
    first = [(chance.choice(guests), chance.choice(doors)) for _ in range(4)]
    return House(guests, THINGS, gates, first + [(guests[0], doors[0])])


def shuffled(house, seed):
    """A House equal to this one, its parts given in another order."""
    chance = random.Random(seed)
    gates = []
    for gate in house.gates():
        rows = [gate.doors(), gate.closet(), gate.rules()]
        for row in rows:
            chance.shuffle(row)
        gates.append(Gate(gate.states, rows[0], tuple(rows[1]), rows[2]))
    rows = [house.guests(), house.things(), house.first() * 2]
    for row in rows:
        chance.shuffle(row)
    return House(tuple(rows[0]), rows[1], tuple(gates), rows[2])


def plain_deeds(house, stand, acting):
    """The calls and hands that can be done, with the stand behind each, worked out from the rules alone."""
    held = {guest: set(names) for guest, names in stand[1]}
    behind = {}
    for guest in acting:
        for name in held[guest]:
            for given in [""] + sorted(held[guest]):
                for number, gate in enumerate(house.gates()):
                    if name in gate.doors():
                        behind[("call", guest, name, given)] = plain_call(house, stand, number, guest, name, given)
                if name in house.guests() and name != guest and given != "":
                    behind[("hand", guest, name, given)] = (stand[0], plain_held(held, name, [given]))
    return behind


def plain_call(house, stand, number, guest, door, given):
    """The stand behind a call."""
    state, kept = stand[0][number]
    held = {holder: set(names) for holder, names in stand[1]}
    gate = house.gates()[number]
    kind = given if given == "" or given in gate.closet() else "?"
    for rule in gate.rules():
        if rule[:3] == (door, state, kind):
            words = {"+given": given, "+kept": kept}
            names = [words.get(word, word) for word in rule[5]]
            gates = list(stand[0])
            gates[number] = (rule[3], given if rule[4] else kept)
            return (tuple(gates), plain_held(held, guest, [name for name in names if name != ""]))
    return stand


def plain_throw(house, stand, door):
    """The stand behind a throw."""
    for number, gate in enumerate(house.gates()):
        if door in gate.doors():
            return (plain_call(house, stand, number, "", door, "")[0], stand[1])


def plain_within(one, other):
    """Whether one stand is within another one."""
    return one[0] == other[0] and all(set(names) <= set(dict(other[1])[guest]) for guest, names in one[1])


def plain_has(stand, wish):
    """Whether a stand has a wish."""
    return all(name in dict(stand[1])[guest] for guest, name in wish)


def plain_held(held, guest, names):
    """What is held when one holds further names."""
    return tuple([(holder, tuple(sorted(held[holder] | (set(names) if holder == guest else set()))))
                  for holder in sorted(held)])


def plain_first(house):
    """The first stand."""
    held = {guest: {guest} for guest in house.guests()}
    for guest, name in house.first():
        held[guest].add(name)
    return (((0, ""),) * len(house.gates()), plain_held(held, "", []))


def plain_grown(house, stand, acting):
    """The grown stand, by doing whatever is no turn and changes something, one deed at a time."""
    changing = True
    while changing:
        changing = False
        for behind in plain_deeds(house, stand, acting).values():
            if behind[0] == stand[0] and behind != stand:
                stand = behind
                changing = True
                break
    return stand


def plain_next(house, node, acting):
    """The grown stands behind one turn."""
    behind = set(plain_deeds(house, node, acting).values())
    return {plain_grown(house, stand, acting) for stand in behind if stand[0] != node[0]}


def plain_nodes(house, acting, begin=None):
    """The dict from all nodes to the fewest steps to them, or from all that come of another stand."""
    level = [plain_grown(house, begin or plain_first(house), acting)]
    steps = {level[0]: 0}
    while level:
        further = []
        for node in level:
            for behind in plain_next(house, node, acting):
                if behind not in steps:
                    steps[behind] = steps[node] + 1
                    further.append(behind)
        level = further
    return steps


def plain_stands(house, acting, most, begin=None):
    """The dict from all stands that any plays lead to, to the fewest turns; None if there are too many."""
    turns = {}
    level = [begin or plain_first(house)]
    many = 0
    while level:
        rest = level
        further = []
        while rest:
            stand = rest.pop()
            if stand in turns:
                continue
            turns[stand] = many
            if len(turns) > most:
                return None
            for behind in plain_deeds(house, stand, acting).values():
                (rest if behind[0] == stand[0] else further).append(behind)
        level = [stand for stand in further if stand not in turns]
        many += 1
    return turns
