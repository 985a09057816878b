"""Facets: doors that let less than others, held in their place."""

from letinside.errors import NotFirst, Twice
from letinside.gates import Gate


def faceted(house, guest, door, word, name):
    """Return the House in which a guest holds a facet of a door, by a name of its own, in the place of the door."""
    pair = (guest, door)
    if pair not in house.first() or door not in house.doors():
        raise NotFirst(pair)
    if name in house.objects():
        raise Twice(name)
    number = house.gate_of(door)
    gate = house.gates()[number]
    if word == "once":
        further = _once(gate, door, name)
    else:
        further = _less(gate, door, name, [rule for rule in gate.rules() if _lets(word, rule[2])])
    first = [(guest, name) if own == pair else own for own in house.first()]
    return house.with_gate(number, further).with_first(first)


def _lets(word, kind):
    """Tell whether a facet of this word goes by rules of this kind."""
    if word == "known":
        return kind != "?"
    return word == "bare" and kind == ""


def _less(gate, door, name, rules):
    """Return the Gate with a facet that goes by those of these rules that are the door's."""
    own = [(name,) + rule[1:] for rule in rules if rule[0] == door]
    return Gate(gate.states, gate.doors() + [name], gate.closet(), gate.rules() + own)


def _once(gate, door, name):
    """Return the Gate with a facet that goes over from the first half of its states to the second one."""
    many = gate.states
    rules = []
    for own, state, kind, later, keeps, told in gate.rules():
        rules.append((own, state, kind, later, keeps, told))
        rules.append((own, many + state, kind, many + later, keeps, told))
        if own == door:
            rules.append((name, state, kind, many + later, keeps, told))
    return Gate(2 * many, gate.doors() + [name], gate.closet(), rules)
