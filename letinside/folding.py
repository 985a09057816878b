"""Folding: states of a gate that are alike, taken as one."""

from letinside.gates import Gate


def state_lots(gate):
    """Return the ascending list of the ascending lists of the states that are alike."""
    lots = [list(range(gate.states))]
    finer = _split(gate, lots)
    while len(finer) > len(lots):
        lots = finer
        finer = _split(gate, lots)
    return lots


def folded(gate):
    """Return the Gate that has one state for each lot of states that can be come to."""
    lots = state_lots(gate)
    number_of = _numbers(lots)
    rules = {}
    for rule in gate.rules():
        rules.setdefault(rule[1], []).append(rule)
    used = _come_to(lots, number_of, rules)
    places = {number: at for at, number in enumerate(used)}
    kept = []
    for at, number in enumerate(used):
        for door, _, kind, later, keeps, told in rules.get(lots[number][0], []):
            kept.append((door, at, kind, places[number_of[later]], keeps, told))
    return Gate(len(used), gate.doors(), gate.closet(), kept)


def folded_house(house):
    """Return the House with all its gates folded."""
    less = house
    for number, gate in enumerate(house.gates()):
        less = less.with_gate(number, folded(gate))
    return less


def _split(gate, lots):
    """Return lots of the states of each lot whose rules are alike as far as these lots tell them apart."""
    number_of = _numbers(lots)
    signs = {state: [number_of[state]] for state in range(gate.states)}
    for door, state, kind, later, keeps, told in gate.rules():
        signs[state].append((door, kind, keeps, told, number_of[later]))
    finer = {}
    for state in range(gate.states):
        finer.setdefault(tuple(signs[state]), []).append(state)
    return list(finer.values())


def _numbers(lots):
    """Return the dict from states to the numbers of their lots."""
    return {state: number for number, lot in enumerate(lots) for state in lot}


def _come_to(lots, number_of, rules):
    """Return the ascending list of the numbers of the lots that rules lead to from the one of state 0."""
    found = {0: True}
    ahead = [0]
    while len(ahead) > 0:
        number = ahead.pop()
        for rule in rules.get(lots[number][0], []):
            later = number_of[rule[3]]
            if later not in found:
                found[later] = True
                ahead.append(later)
    return sorted(found)
