"""Boards: stands as numbers, so that walks over many stands of a house are quick.

A PLACE is a stand told as a tuple (gates, masks): its gates, and for each guest, ascending, the sum of
the bits of the names that it holds. A MOVE is a tuple (need, gain, later, door, given): a call of a door
that a holder of the bits of need can do, the bits of what is told, and the gates behind it.
"""

from letinside.calling import called


class Board:
    """A House with some guests who act."""

    def __init__(self, house, acting):
        self._house = house
        self._doors = house.doors()
        self._guests = house.guests()
        self._names = house.objects()
        self._acting = [at for at, guest in enumerate(self._guests) if guest in acting]
        self._bits = {"": 0}
        for at, name in enumerate(self._names):
            self._bits[name] = 1 << at
        self._moves = {}

    def place_of(self, stand):
        """Return the place of a stand."""
        return (stand[0], tuple([self._mask(held[1]) for held in stand[1]]))

    def stand_of(self, place):
        """Return the stand of a place."""
        held = [(guest, tuple(self._names_in(mask))) for guest, mask in zip(self._guests, place[1])]
        return (place[0], tuple(held))

    def wanted(self, wish):
        """Return the list of the masks of what the guests, ascending, are to hold by a wish."""
        return [self._mask([name for holder, name in wish if holder == guest]) for guest in self._guests]

    def has(self, place, wanted):
        """Tell whether the guests hold in a place what is wanted."""
        return all([mask & want == want for mask, want in zip(place[1], wanted)])

    def grow(self, place):
        """Return the grown place to which a place grows, and a play without turns that leads there."""
        gates, held = place
        still = self._moves_at(gates)[0]
        masks = list(held)
        play = []
        before = []
        while before != masks:
            before = list(masks)
            for at in self._acting:
                self._call_all(still, masks, at, play)
                self._hand_all(masks, at, play)
        return ((gates, tuple(masks)), play)

    def turns(self, place):
        """Return the dict from the places just behind a turn from a grown place to one such turn each."""
        masks = place[1]
        turning = self._moves_at(place[0])[1]
        behind = {}
        for at in self._leaders(masks):
            mask = masks[at]
            for need, gain, later, door, given in turning:
                if mask & need == need:
                    told = masks[:at] + (mask | gain,) + masks[at + 1:]
                    behind.setdefault((later, told), ("call", self._guests[at], door, given))
        return behind

    def thrown(self, place, door):
        """Return the place behind a throw of a door."""
        return (called(self._house, place[0], door, "")[0], place[1])

    def holding(self, place, guest, names):
        """Return the place in which a guest holds further names, too."""
        at = self._guests.index(guest)
        masks = place[1]
        return (place[0], masks[:at] + (masks[at] | self._mask(sorted(set(names))),) + masks[at + 1:])

    def _mask(self, names):
        """Return the sum of the bits of different names."""
        return sum([self._bits[name] for name in names])

    def _names_in(self, mask):
        """Return the ascending list of the names whose bits are in a mask."""
        return [name for name in self._names if mask & self._bits[name] != 0]

    def _leaders(self, masks):
        """Return those who act, but for those whom an earlier one of them holds.

        In a grown place two such guests hold the same and hand each other all, so that the turns of the
        one lead to what the turns of the other lead to, once it has grown.
        """
        leaders = []
        for at in self._acting:
            bit = self._bits[self._guests[at]]
            if all([masks[leader] & bit == 0 for leader in leaders]):
                leaders.append(at)
        return leaders

    def _call_all(self, still, masks, at, play):
        """Let one guest do all calls that are no turns and tell it something new."""
        for need, gain, _, door, given in still:
            if masks[at] & need == need and masks[at] | gain != masks[at]:
                masks[at] = masks[at] | gain
                play.append(("call", self._guests[at], door, given))

    def _hand_all(self, masks, at, play):
        """Let one guest hand all that it holds to all that it holds."""
        for other, name in enumerate(self._guests):
            new = masks[at] & ~masks[other]
            if new != 0 and masks[at] & self._bits[name] != 0:
                masks[other] = masks[other] | new
                play.extend([("hand", self._guests[at], name, given) for given in self._names_in(new)])

    def _moves_at(self, gates):
        """Return two lists of moves at these gates: what tells something and is no turn, and the turns."""
        if gates not in self._moves:
            moves = [self._move(gates, door, given) for door in self._doors for given in [""] + self._names]
            still = [move for move in moves if move[2] == gates and move[1] & ~move[0] != 0]
            self._moves[gates] = (still, [move for move in moves if move[2] != gates])
        return self._moves[gates]

    def _move(self, gates, door, given):
        """Return the move of a door when this is given."""
        later, names = called(self._house, gates, door, given)
        gain = 0
        for name in names:
            gain = gain | self._bits[name]
        return (self._bits[door] | self._bits[given], gain, later, door, given)
