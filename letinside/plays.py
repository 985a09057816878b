"""Plays: lists of deeds of any value, looked at one behind the other."""

from letinside.doing import led
from letinside.errors import NotDone
from letinside.kinds import is_deed
from letinside.stands import first_stand


def is_of_acting(thing, acting):
    """Tell whether thing, any value, has the form of a call or a hand by a guest who acts."""
    return is_deed(thing) and thing[0] != "throw" and thing[1] in acting


def stands_of(house, deeds):
    """Return the stands that a list of deeds leads to from the first one on, or None if one cannot be done."""
    try:
        return led(house, first_stand(house), deeds)
    except NotDone:
        return None
