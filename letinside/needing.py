"""Needing: whether two codes do the same, and which words of its letter a code needs."""

from letinside.codes import is_case, letter, places_in, ran
from letinside.errors import Unlike
from letinside.guesses import Guess


def do_same(one, other):
    """Tell whether two codes of equal letters do the same in all cases."""
    return parting_case(one, other) is None


def parting_case(one, other):
    """Return a case in which two codes of equal letters do not do the same, or None."""
    _refuse_unlike(one, other)
    return _seek(one, other, [])


def is_parting_case(one, other, thing):
    """Tell whether thing, any value, is a case in which two codes of equal letters do not do the same."""
    _refuse_unlike(one, other)
    return is_case(one, thing) and _parts(one, other, thing, [])


def needs(code):
    """Return the ascending list of the needed words of the letter of a code."""
    return [word for word in letter(code) if need_case(code, word) is not None]


def need_case(code, word):
    """Return a case in which it is to be seen that a word of the letter is missing, or None if it is not needed."""
    return _seek(code, code, [word])


def is_need_case(code, word, thing):
    """Tell whether thing, any value, is a case in which it is to be seen that a word of the letter is missing."""
    return is_case(code, thing) and thing[0][word] is not None and _parts(code, code, thing, [word])


def plain(code):
    """Return the code in which sames that do not matter are exchanged for their no."""
    return _plain_in(code, [])


def _refuse_unlike(one, other):
    """Raise Unlike if the letters of two codes are unlike."""
    if letter(one) != letter(other):
        raise Unlike()


def _parts(one, other, case, lost):
    """Tell whether one code does in a case otherwise than another one where the lost words are missing, too."""
    things = dict(case[0])
    for word in lost:
        things[word] = None
    return ran(one, case) != ran(other, (things, case[1]))


def _seek(one, other, lost):
    """Return a case of one code that parts it from another one, as told by _parts, or None if there is none.

    The lost words are there in the case. Of all cases that lead both codes the same ways the one with the most
    unlike things parts them if any does, so that one case is tried for each two ways.
    """
    words = letter(one)
    row = []
    while row is not None:
        guess = Guess(row, lost)
        _go(one, guess, [])
        _go(other, guess, lost)
        case = guess.case(words)
        if _parts(one, other, case, lost):
            return case
        row = guess.next_row()
    return None


def _go(code, guess, lost):
    """Ask a guess all that the way of a code depends on, the lost words being missing."""
    marks = {}
    calls = 0
    while code[0] != "end":
        if code[0] == "same":
            one = _mark(code[1], marks, guess, lost)
            other = None if one is None else _mark(code[2], marks, guess, lost)
            code = code[3] if other is not None and guess.are_same(one, other) else code[4]
        elif _mark(code[1], marks, guess, lost) is None:
            code = code[5]
        elif not guess.is_enough(calls, len(code[3])):
            calls += 1
            code = code[5]
        else:
            for at, word in enumerate(code[3]):
                marks[word] = (calls, at)
            calls += 1
            code = code[4]


def _mark(word, marks, guess, lost):
    """Return the mark of a word, by the marks of the words of gets, or None if it is missing."""
    if word in marks:
        return marks[word]
    return None if word in lost or guess.is_missing(word) else word


def _plain_in(code, way):
    """Return the plain code for a part of a code.

    The way there is the list of the tuples (code, index) of the calls and sames ahead of it, and of the indexes
    in them at which it goes on.
    """
    less = code
    for at in places_in(code):
        less = _exchanged(less, at, _plain_in(less[at], way + [(less, at)]))
    if less[0] == "same" and _seek(_whole(way, less), _whole(way, less[4]), []) is None:
        return less[4]
    return less


def _whole(way, part):
    """Return the whole code with a part at the end of the way; what lies off the way ends at once.

    In the cases that lead off the way the part does not matter.
    """
    whole = part
    for ahead, at in way[::-1]:
        line = ahead
        for other in places_in(ahead):
            line = _exchanged(line, other, whole if other == at else ("end", ()))
        whole = line
    return whole


def _exchanged(code, at, part):
    """Return a code with another one at an index at which it goes on."""
    return code[:at] + (part,) + code[at + 1:]
