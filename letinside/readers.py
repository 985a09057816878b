"""Readers: what texts in the notation are of."""

from letinside.codes import is_code
from letinside.codewords import CodeWords
from letinside.errors import NoText
from letinside.kinds import is_wish
from letinside.notation import show_code
from letinside.takers import DeedsTaker, GateTaker, HouseTaker, StandTaker, deed_of


def read_gate(text):
    """Return the Gate with a text, any value."""
    return _taken(text, GateTaker([]))


def read_house(text):
    """Return the House with a text, any value."""
    return _taken(text, HouseTaker())


def read_deed(text):
    """Return the deed with a text, any value."""
    _refuse_no_string(text)
    deed = deed_of(text)
    if deed is None:
        raise NoText(1)
    return deed


def read_deeds(text):
    """Return the list of deeds with a text, any value."""
    return _taken(text, DeedsTaker())


def read_wish(text):
    """Return the wish with a text, any value."""
    _refuse_no_string(text)
    wish = tuple([tuple(part.split(" ")) for part in text.split(", ")])
    if not is_wish(wish):
        raise NoText(1)
    return wish


def read_stand(text):
    """Return the stand with a text, any value."""
    return _taken(text, StandTaker())


def read_code(text):
    """Return the code with a text, any value."""
    _refuse_no_string(text)
    code = CodeWords(text).take_code(0)
    if not is_code(code) or show_code(code) != text:
        raise NoText(1)
    return code


def _refuse_no_string(text):
    """Raise NoText of no line if this is no string."""
    if not isinstance(text, str):
        raise NoText(0)


def _taken(text, taker):
    """Return what a taker makes of the lines of a text, any value."""
    _refuse_no_string(text)
    lines = text.split("\n")
    # Behind the last line feed there is nothing; what stands there is a line that lacks its own.
    rest = lines.pop()
    for index, line in enumerate(lines):
        if not taker.take(line):
            raise NoText(index + 1)
    if rest != "":
        raise NoText(len(lines) + 1)
    if not taker.is_whole():
        raise NoText(max(1, len(lines)))
    return taker.made()
