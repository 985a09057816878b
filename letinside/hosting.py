"""Hosting: the code of a visit, which runs step by step on behalf of the host, who holds everything.

A RUN is a tuple (step, things): the call or the end that the code comes to next, or None behind its end, and
the dict of what its words stand for.
"""

from letinside.calling import Caller
from letinside.codes import begun, given_in, gone_on, letter, told_at


class Host:
    """Who lets the code of a visit run."""

    def __init__(self, visit):
        self._caller = Caller(visit[0])
        self._first = begun(visit[2], visit[3])
        self._steps = []

    def first(self):
        """Return the run of which no step has been done."""
        return self._first

    def has_ended(self, run):
        """Tell whether no step of a run is left."""
        return run[0] is None

    def call_of(self, run):
        """Return the call (door, given) of a door that the next step of a run makes, or None if it makes none."""
        step, things = run
        if step is None or step[0] == "end" or not self._caller.is_door(things[step[1]]):
            return None
        given = given_in(step, things)
        return (things[step[1]], "" if given is None else given)

    def behind(self, run, gates):
        """Return the run and the gates behind the next step of a run, and the list of what the asker is told."""
        step, things = run
        if step[0] == "end":
            return ((None, {}), gates, [name for name in told_at(step, things) if name is not None])
        call = self.call_of(run)
        if call is None:
            return (gone_on(step, things, []), gates, [])
        later, told = self._caller.call(gates, call[0], call[1])
        return (gone_on(step, things, told), later, [])

    def key_of(self, run):
        """Return a tuple that is the same for runs from which the same comes, as no other words matter any more."""
        step, things = run
        if step is None:
            return (-1,)
        if step not in self._steps:
            self._steps.append(step)
        return (self._steps.index(step),) + tuple([things[word] for word in letter(step)])
