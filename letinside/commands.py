"""Commands: what the lines of a desk say.

A COMMAND is a tuple: an edit of a book; or one of the words "back", "again", "house", "bans" alone; or
("holds", guest), ("late", door, wish), or one of the words "can", "turns", "actors", "lots" with a wish.
"""

from letinside.errors import NoCommand, NoText
from letinside.kinds import is_name
from letinside.notation import show_wish
from letinside.readers import read_wish

ALONE = ("back", "again", "house", "bans")
WITH_GUEST = ("act", "rest", "holds")
WITH_PAIR = ("give", "withhold")
WITH_WISH = ("ban", "lift", "can", "turns", "actors", "lots")


def command_of(line):
    """Return the command that a line, any value, says."""
    if not isinstance(line, str):
        raise NoCommand()
    word, _, rest = line.partition(" ")
    if word in WITH_WISH:
        return (word, _wish_of(rest))
    if word == "late":
        door, _, wish = rest.partition(" ")
        return (word, _name_of(door), _wish_of(wish))
    words = line.split(" ")
    many = len(words)
    if word in WITH_PAIR and many == 3 or word in WITH_GUEST and many == 2 or word in ALONE and many == 1:
        return (word,) + tuple([_name_of(name) for name in words[1:]])
    raise NoCommand()


def line_of(edit):
    """Return the line that says an edit."""
    if edit[0] in ("ban", "lift"):
        return edit[0] + " " + show_wish(edit[1])
    return " ".join(edit)


def _name_of(word):
    """Return a word that is a name."""
    if not is_name(word):
        raise NoCommand()
    return word


def _wish_of(text):
    """Return the wish with a text."""
    try:
        return read_wish(text)
    except NoText:
        raise NoCommand()
