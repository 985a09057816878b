"""Rules needed: which rules plays follow, and without which a wish cannot come."""

from letinside.covers import most_nodes
from letinside.errors import Never
from letinside.plays import stands_of
from letinside.reach import can, play_for


def followed(house, acting):
    """Return the ascending list of the keys of the rules that some play follows."""
    found = most_nodes(house, acting)
    return [key for key in _keys(house) if any([_can_follow(house, node, acting, key) for node in found])]


def idle(house, acting):
    """Return the ascending list of the keys of the rules that no play follows."""
    active = followed(house, acting)
    return [key for key in _keys(house) if key not in active]


def pruned(house, acting):
    """Return the House without the rules that no play follows."""
    less = house
    for key in idle(house, acting):
        less = less.without_rule(key)
    return less


def needed(house, acting, wish):
    """Return the ascending list of the keys of the rules without each of which a wish cannot come."""
    play = play_for(house, acting, wish)
    if play is None:
        raise Never(wish)
    # Without a rule that it does not follow this play still brings the wish.
    return [key for key in _keys_of(house, play) if not can(house.without_rule(key), acting, wish)]


def _keys(house):
    """Return the ascending list of the keys of all rules."""
    return sorted([rule[:3] for gate in house.gates() for rule in gate.rules()])


def _can_follow(house, stand, acting, key):
    """Tell whether one who acts can do a call in a stand that goes by the rule with this key."""
    door, state, kind = key
    number = house.gate_of(door)
    if stand[0][number][0] != state:
        return False
    gate = house.gates()[number]
    for guest, names in stand[1]:
        if guest in acting and door in names and kind in [gate.kind_of(given) for given in [""] + list(names)]:
            return True
    return False


def _keys_of(house, play):
    """Return the ascending list of the keys of the rules that a play follows."""
    keys = {}
    for stand, deed in zip(stands_of(house, play), play):
        if deed[0] == "call":
            number = house.gate_of(deed[2])
            gate = house.gates()[number]
            key = (deed[2], stand[0][number][0], gate.kind_of(deed[3]))
            if gate.rule_for(key[0], key[1], key[2]) is not None:
                keys[key] = True
    return sorted(keys)
