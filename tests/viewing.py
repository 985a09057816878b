"""Views, and a second, plain way to work out what they show, for the tests."""

import random

from letinside.gates import Gate
from letinside.houses import House
from tests.samples import random_house


def chest_view():
    """The first view of the document."""
    once = Gate(2, ["pick"], ["cup", "key"],
                [("pick", 0, "", 1, False, ("cup",)), ("pick", 0, "?", 1, False, ("key",))])
    return (House(["ann"], ["cup", "key"], [once], [("ann", "pick")]), "ann", ["pick"])


def box_view():
    """The second view of the document."""
    box = Gate(2, ["take"], ["coin"], [("take", 0, "", 1, False, ("coin",)), ("take", 0, "?", 1, False, ("coin",))])
    return (House(["eve"], ["coin"], [box], [("eve", "take")]), "eve", ["take"])


def names_of(house, guest):
    """The names that a guest holds at first, besides its own."""
    return [name for holder, name in house.first() if holder == guest]


def random_view(seed):
    """A view of a guest who holds some doors."""
    house = random_house(seed, 2, 2, 4)
    chance = random.Random(seed)
    more = [("ann", name) for name in chance.sample(house.doors(), min(2, len(house.doors())))]
    house = house.with_first(house.first()[:3] + more)
    names = names_of(house, "ann")
    chance.shuffle(names)
    return (house, "ann", names)


def unfolded(gate, seed):
    """A Gate that does the same, with two states for each one, and rules that lead to either."""
    chance = random.Random(seed)
    rules = [(door, state + half * gate.states, kind, later + chance.randrange(2) * gate.states, keeps, told)
             for door, state, kind, later, keeps, told in gate.rules() for half in range(2)]
    return Gate(2 * gate.states, gate.doors(), gate.closet(), rules)


def unfolded_house(house, seed):
    """The House with its gates unfolded."""
    return House(house.guests(), house.things(), [unfolded(gate, seed) for gate in house.gates()], house.first())


def other_names(view):
    """A view that is like another one but for its names, which are in another order."""
    house, guest, names = view
    table = {name: "z" + name[::-1] for name in house.objects()}
    return (house.renamed(table), table[guest], [table[name] for name in names])


def one_rule_otherwise(view, seed):
    """A view of a House one rule of which is another one, or is left out."""
    chance = random.Random(seed)
    house, guest, names = view
    number = chance.randrange(len(house.gates()))
    gate = house.gates()[number]
    if gate.rules():
        door, state, kind, later, keeps, told = chance.choice(gate.rules())
        gate = chance.choice([
            gate.without_rule((door, state, kind)),
            gate.with_rule((door, state, kind, chance.randrange(gate.states), keeps, told)),
            gate.with_rule((door, state, kind, later, False, told)),
            gate.with_rule((door, state, kind, later, keeps, told[1:])),
            gate.with_rule((door, state, kind, later, keeps, told[::-1] + ("+kept",))),
        ])
    return (house.with_gate(number, gate), guest, names)


def begun(view):
    """The state of a view at first: its gates and its known names."""
    return (((0, ""),) * len(view[0].gates()), (view[1], *view[2]))


def plain_step(house, state, call):
    """The state behind a call, and what it shows, from the rules alone."""
    gates, known = state
    name, given = known[call[0]], "" if call[1] == -1 else known[call[1]]
    told = []
    for number, gate in enumerate(house.gates()):
        kind = given if given == "" or given in gate.closet() else "?"
        for rule in gate.rules():
            if rule[:3] == (name, gates[number][0], kind):
                words = {"+given": given, "+kept": gates[number][1]}
                told = [words.get(word, word) for word in rule[5] if words.get(word, word) != ""]
                later = (rule[3], given if rule[4] else gates[number][1])
                behind = gates[:number] + (later,) + gates[number + 1:]
                for word in told:
                    known = known if word in known else known + (word,)
                return ((behind, known), [known.index(word) for word in told])
    return ((gates, known), [])


def is_plain_call(state, thing):
    """Whether thing is a call in a state."""
    many = len(state[1])
    if type(thing) is not tuple or len(thing) != 2 or type(thing[0]) is not int or type(thing[1]) is not int:
        return False
    return 0 <= thing[0] < many and -1 <= thing[1] < many


def plain_walk(one, other, most):
    """All states that two views are in side by side by calls, and the fewest calls that part them, or None.

    The states alone are None if there are too many.
    """
    begin = (begun(one), begun(other))
    seen = {begin}
    level = [begin]
    many = 0
    while level:
        many += 1
        further = []
        for mine, theirs in level:
            for door in range(len(mine[1])):
                for given in range(-1, len(mine[1])):
                    mine_then, shows = plain_step(one[0], mine, (door, given))
                    theirs_then, shows_too = plain_step(other[0], theirs, (door, given))
                    if shows != shows_too:
                        return (seen, many)
                    if (mine_then, theirs_then) not in seen:
                        seen.add((mine_then, theirs_then))
                        further.append((mine_then, theirs_then))
        if len(seen) > most:
            return (None, None)
        level = further
    return (seen, None)


def pair_of(state):
    """The pair of a state of two views side by side."""
    (gates, known), (gates_too, known_too) = state
    return (gates, gates_too, tuple(sorted(zip(known, known_too))))


def plain_is_parting(one, other, thing):
    """Whether thing is a list of calls of which the last one first shows unlike things."""
    if type(thing) is not list or not thing:
        return False
    mine, theirs = begun(one), begun(other)
    for at, call in enumerate(thing):
        if not is_plain_call(mine, call):
            return False
        mine, shows = plain_step(one[0], mine, call)
        theirs, shows_too = plain_step(other[0], theirs, call)
        if shows != shows_too:
            return at == len(thing) - 1
    return False


def beside(seed):
    """Two views of equally many names, which may see the same or not."""
    one = random_view(seed)
    house, guest, names = one
    other = [one, other_names(one), (unfolded_house(house, seed), guest, names), one_rule_otherwise(one, seed),
             other_names(one_rule_otherwise(one, seed)), (house, guest, names[::-1])][seed % 6]
    return (one, other)
