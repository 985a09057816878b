"""Visits: known code that runs once in a house, and what guests mislead it to do."""

from letinside.doing import can_do, done
from letinside.errors import NotDone
from letinside.hosting import Host
from letinside.plays import is_of_acting
from letinside.stands import first_stand, has, holding
from letinside.visitwalks import VisitWalk


class Watched:
    """A visit in which entries are done, one behind the other."""

    def __init__(self, visit):
        self._house = visit[0]
        self._acting = visit[1]
        self._asker = visit[4]
        self._host = Host(visit)
        self._run = self._host.first()
        self._stand = first_stand(visit[0])
        self._calls = []

    def stand(self):
        """Return the stand now."""
        return self._stand

    def calls(self):
        """Return the list of the calls of doors that the code has made so far."""
        return list(self._calls)

    def has_ended(self):
        """Tell whether no step of the code is left."""
        return self._host.has_ended(self._run)

    def is_entry(self, thing):
        """Tell whether thing, any value, is an entry that can be done now."""
        if thing == ("step",):
            return not self.has_ended()
        return is_of_acting(thing, self._acting) and can_do(self._house, self._stand, thing)

    def do(self, entry):
        """Do an entry."""
        if entry != ("step",):
            self._stand = done(self._house, self._stand, entry)
            return
        call = self._host.call_of(self._run)
        if call is not None:
            self._calls.append(call)
        self._run, gates, names = self._host.behind(self._run, self._stand[0])
        self._stand = (gates, holding(self._stand[1], self._asker, names))


def made(visit, entries):
    """Return the list of the calls of doors that the code makes in a visit play, any value."""
    return _watched(visit, entries).calls()


def alone(visit):
    """Return the list of the calls of doors that the code makes where no guest acts."""
    watched = Watched(visit)
    while not watched.has_ended():
        watched.do(("step",))
    return watched.calls()


def misled(visit):
    """Return the ascending list of the calls of doors that the code makes in some visit play."""
    return VisitWalk(visit).calls()


def mislead(visit, call):
    """Return a visit play whose last entry is a step in which the code makes a call, or None."""
    walk = VisitWalk(visit)
    number = walk.number_of_call(call)
    return None if number is None else walk.play_to(number) + [("step",)]


def is_mislead(visit, call, thing):
    """Tell whether thing, any value, is a visit play whose last entry is a step that makes a call, any value."""
    try:
        calls = made(visit, thing)
    except NotDone:
        return False
    if len(calls) == 0 or calls[-1] != call:
        return False
    return len(made(visit, thing[:-1])) < len(calls)


def asked_can(visit, wish):
    """Tell whether some visit play leads to a stand that has a wish."""
    return VisitWalk(visit).number_of_wish(wish) is not None


def visit_play(visit, wish):
    """Return a visit play that leads to a stand that has a wish, or None."""
    walk = VisitWalk(visit)
    number = walk.number_of_wish(wish)
    return None if number is None else walk.play_to(number)


def is_visit_play(visit, wish, thing):
    """Tell whether thing, any value, is a visit play that leads to a stand that has a wish."""
    try:
        stand = _watched(visit, thing).stand()
    except NotDone:
        return False
    return has(stand, wish)


def _watched(visit, entries):
    """Return a visit in which entries, any value, have been done."""
    if not isinstance(entries, list):
        raise NotDone(0)
    watched = Watched(visit)
    for index, entry in enumerate(entries):
        if not watched.is_entry(entry):
            raise NotDone(index)
        watched.do(entry)
    return watched
