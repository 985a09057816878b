"""Views: a house as it looks to one guest, who acts alone."""

from letinside.besides import Beside
from letinside.calling import Caller
from letinside.errors import NoCall, Unlike
from letinside.houses import House
from letinside.kinds import are_names, is_below, is_integer, is_name
from letinside.stands import first_stand, names_held


class Watch:
    """A view in which calls are done, one behind the other."""

    def __init__(self, view):
        house, guest, names = view
        self._caller = Caller(house)
        self._gates = first_stand(house)[0]
        self._names = [guest] + names

    def is_call(self, thing):
        """Tell whether thing, any value, is a call of the names known now."""
        if not isinstance(thing, tuple) or len(thing) != 2:
            return False
        door, given = thing
        many = len(self._names)
        return is_below(door, many) and is_integer(given) and -1 <= given < many

    def index_of(self, name):
        """Return the index of a name known now, or -1 of ""."""
        return -1 if name == "" else self._names.index(name)

    def show(self, call):
        """Do a call, and return the list of the indexes that it shows."""
        door, given = call
        word = "" if given == -1 else self._names[given]
        self._gates, told = self._caller.call(self._gates, self._names[door], word)
        for name in told:
            if name not in self._names:
                self._names.append(name)
        return [self._names.index(name) for name in told]


def is_view(thing):
    """Tell whether thing, any value, is a view."""
    if not isinstance(thing, tuple) or len(thing) != 3:
        return False
    house, guest, names = thing
    if not isinstance(house, House) or not is_name(guest) or guest not in house.guests():
        return False
    if not isinstance(names, list) or not are_names(names):
        return False
    return sorted(names) == [name for name in names_held(first_stand(house), guest) if name != guest]


def shown(view, calls):
    """Return the list of what calls, any values, show, done one behind the other."""
    watch = Watch(view)
    rows = []
    for index, call in enumerate(calls):
        if not watch.is_call(call):
            raise NoCall(index)
        rows.append(watch.show(call))
    return rows


def see_same(one, other):
    """Tell whether two views show the same by all lists of calls."""
    return Beside(one, other).walk()[1] is None


def parting(one, other):
    """Return a list of as few calls as possible of which the last one shows unlike things, or None."""
    found, step = Beside(one, other).walk()
    if step is None:
        return None
    steps = []
    while step is not None:
        steps.append(step)
        step = found[step[0]]
    return _calls_of(one, steps[::-1])


def is_parting(one, other, thing):
    """Tell whether thing, any value, is a list of calls of which the last one first shows unlike things."""
    if len(one[2]) != len(other[2]):
        raise Unlike()
    if not isinstance(thing, list):
        return False
    watch = Watch(one)
    watch_too = Watch(other)
    for index, call in enumerate(thing):
        # As long as both show the same they know equally many names.
        if not watch.is_call(call):
            return False
        if watch.show(call) != watch_too.show(call):
            return index == len(thing) - 1
    return False


def _calls_of(view, steps):
    """Return the calls of the indexes that the names of the steps have in the first one of two views."""
    watch = Watch(view)
    calls = []
    for _, door, given in steps:
        call = (watch.index_of(door[0]), watch.index_of(given[0]))
        watch.show(call)
        calls.append(call)
    return calls
