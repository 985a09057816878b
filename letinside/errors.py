"""The errors of the package; each keeps just what it was made with."""


class HouseError(ValueError):
    """What all errors of the package have in common; it is raised nowhere itself."""


class Wrong(HouseError):
    """The argument at this place is not as described."""

    def __init__(self, place):
        self.place = place


class NoRule(HouseError):
    """No rule has this key."""

    def __init__(self, key):
        self.key = key


class Twice(HouseError):
    """Two objects have this name."""

    def __init__(self, name):
        self.name = name


class Strange(HouseError):
    """No object has this name, or no guest where one is wanted."""

    def __init__(self, name):
        self.name = name


class NoDoor(HouseError):
    """This is no door, or the number of no gate."""

    def __init__(self, door):
        self.door = door


class NoDeed(HouseError):
    """This is no deed by its form."""


class NoGuest(HouseError):
    """No guest has this name."""

    def __init__(self, name):
        self.name = name


class NotHeld(HouseError):
    """The guest does not hold this name."""

    def __init__(self, name):
        self.name = name


class NotDone(HouseError):
    """What stands at this index cannot be done."""

    def __init__(self, index):
        self.index = index


class Never(HouseError):
    """This wish cannot come anyhow."""

    def __init__(self, wish):
        self.wish = wish


class NoCall(HouseError):
    """What stands at this index is no call of the names known then."""

    def __init__(self, index):
        self.index = index


class Unlike(HouseError):
    """The two cannot be compared."""


class NotFirst(HouseError):
    """There is no such first pair of a guest and a door."""

    def __init__(self, pair):
        self.pair = pair


class NoText(HouseError):
    """The text is wrong from this line on."""

    def __init__(self, line):
        self.line = line


class NoEdit(HouseError):
    """This is no edit by its form."""


class Idle(HouseError):
    """Nothing would change by the edit."""


class Opened(HouseError):
    """This ban could come, by this play."""

    def __init__(self, ban, play):
        self.ban = ban
        self.play = play


class Nothing(HouseError):
    """There is nothing to undo or to do anew."""


class Stopped(HouseError):
    """The edit at this index raises an error."""

    def __init__(self, index):
        self.index = index


class NoCommand(HouseError):
    """This is no line that the desk knows."""
