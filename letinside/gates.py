"""Gates: known code with a few states, which stands behind doors."""

from letinside.errors import NoRule, Wrong
from letinside.kinds import are_names, is_below, is_integer


class Gate:
    """A gate: its states, its doors, the names that it knows, and what comes of its calls."""

    def __init__(self, states, doors, closet, rules):
        if not is_integer(states) or not 1 <= states <= 64:
            raise Wrong(0)
        if not are_names(doors) or len(doors) == 0:
            raise Wrong(1)
        if not are_names(closet):
            raise Wrong(2)
        if not isinstance(rules, (list, tuple)):
            raise Wrong(3)
        self._states = states
        self._doors = sorted(doors)
        self._closet = sorted(closet)
        self._rules = {}
        for rule in rules:
            if not self._is_rule(rule) or rule[:3] in self._rules:
                raise Wrong(3)
            self._rules[rule[:3]] = rule

    def __eq__(self, other):
        return (isinstance(other, Gate) and self._states == other._states and self._doors == other._doors
                and self._closet == other._closet and self._rules == other._rules)

    @property
    def states(self):
        """How many states the gate has."""
        return self._states

    def doors(self):
        """Return the ascending list of its doors."""
        return list(self._doors)

    def closet(self):
        """Return the ascending list of the names that it knows."""
        return list(self._closet)

    def rules(self):
        """Return the ascending list of its rules."""
        return sorted(list(self._rules.values()))

    def kind_of(self, given):
        """Return the kind of what is given, a name or ""."""
        if given == "" or given in self._closet:
            return given
        return "?"

    def rule_for(self, door, state, kind):
        """Return the rule for a door, a state and a kind, any values, or None."""
        if not isinstance(door, str) or not is_integer(state) or not isinstance(kind, str):
            return None
        return self._rules.get((door, state, kind))

    def call(self, state, kept, door, given):
        """Return the state and what is kept behind a call, and the names that it tells."""
        rule = self.rule_for(door, state, self.kind_of(given))
        if rule is None:
            return (state, kept, [])
        names = []
        for word in rule[5]:
            if word == "+given":
                names.append(given)
            elif word != "+kept":
                names.append(word)
            elif kept != "":
                names.append(kept)
        return (rule[3], given if rule[4] else kept, names)

    def without_rule(self, key):
        """Return the Gate without the rule that has this key, any value."""
        if not isinstance(key, tuple) or len(key) != 3 or self.rule_for(key[0], key[1], key[2]) is None:
            raise NoRule(key)
        return Gate(self._states, self._doors, self._closet, self._rules_but(key))

    def with_rule(self, rule):
        """Return the Gate with a rule more, any value, in the place of the one with the same key."""
        if not self._is_rule(rule):
            raise Wrong(0)
        return Gate(self._states, self._doors, self._closet, self._rules_but(rule[:3]) + [rule])

    def renamed(self, names):
        """Return the Gate with other names, by a dict from names to names."""
        doors = [names.get(door, door) for door in self._doors]
        closet = [names.get(name, name) for name in self._closet]
        rules = []
        for door, state, kind, later, keeps, told in self.rules():
            words = tuple([names.get(word, word) for word in told])
            rules.append((names.get(door, door), state, names.get(kind, kind), later, keeps, words))
        return Gate(self._states, doors, closet, rules)

    def _rules_but(self, key):
        """Return the list of the rules that have another key."""
        return [rule for rule in self.rules() if rule[:3] != key]

    def _is_rule(self, thing):
        """Tell whether thing is a rule of the states, doors and closet."""
        if not isinstance(thing, tuple) or len(thing) != 6:
            return False
        door, state, kind, later, keeps, told = thing
        if door not in self._doors or not is_below(state, self._states) or not is_below(later, self._states):
            return False
        if kind not in self._closet + ["", "?"] or not isinstance(keeps, bool) or not isinstance(told, tuple):
            return False
        if kind == "":
            return not keeps and all([word in self._closet + ["+kept"] for word in told])
        return all([word in self._closet + ["+kept", "+given"] for word in told])
