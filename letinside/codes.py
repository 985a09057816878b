"""Codes: known code that comes with a letter, and what it does in a case."""

from letinside.kinds import are_names, is_given, is_integer, is_name


def is_code(thing):
    """Tell whether thing, any value, is a code."""
    if not _has_form(thing):
        return False
    gets = _gets_in(thing)
    # A word of gets that stands outside of their some is one of other gets, or stands in the letter.
    return are_names(gets) and not any([word in gets for word in letter(thing)])


def letter(code):
    """Return the ascending list of the words of the letter of a code."""
    return sorted(set(_words_for(code)))


def size(code):
    """Return how many calls and sames a code has."""
    within = sum([size(part) for part in codes_in(code)])
    return within if code[0] == "end" else within + 1


def depth(code):
    """Return how many calls and sames of a code lie within one another at most."""
    return max([1 + depth(part) for part in codes_in(code)], default=0)


def codes_in(code):
    """Return the list of the two codes with which a call or a same goes on, or of none for an end."""
    return [code[at] for at in places_in(code)]


def places_in(code):
    """Return the list of the indexes in a code at which the codes stand with which it goes on."""
    if code[0] == "end":
        return []
    return [4, 5] if code[0] == "call" else [3, 4]


def is_case(code, thing):
    """Tell whether thing, any value, is a case of a code."""
    if not isinstance(thing, tuple) or len(thing) != 2:
        return False
    things, answers = thing
    if not isinstance(things, dict) or not all([is_name(word) for word in things]) or sorted(things) != letter(code):
        return False
    if not all([worth is None or _is_number(worth) for worth in things.values()]):
        return False
    return isinstance(answers, list) and all([_are_numbers(told) for told in answers])


def ran(code, case):
    """Return the list of the calls that a code makes in a case, and the list of what its end tells."""
    answers = case[1]
    calls = []
    step, things = begun(code, case[0])
    while step[0] == "call":
        told = []
        if things[step[1]] is not None:
            told = answers[len(calls)] if len(calls) < len(answers) else []
            calls.append((things[step[1]], given_in(step, things)))
        step, things = gone_on(step, things, told)
    return (calls, told_at(step, things))


def begun(code, things):
    """Return the first call or end that a code comes to, and the dict of what its words stand for."""
    while code[0] == "same":
        alike = things[code[1]] is not None and things[code[1]] == things[code[2]]
        code = code[3] if alike else code[4]
    return (code, things)


def gone_on(call, things, told):
    """Return what comes behind a call when this is told, as begun does for a code."""
    gets = call[3]
    if len(told) < len(gets):
        return begun(call[5], things)
    more = dict(things)
    for word, thing in zip(gets, told):
        more[word] = thing
    return begun(call[4], more)


def given_in(call, things):
    """Return what a call gives, or None if it gives nothing or a missing word."""
    return None if call[2] == "" else things[call[2]]


def told_at(end, things):
    """Return the list of what an end tells, None for missing words."""
    return [things[word] for word in end[1]]


def _has_form(thing):
    """Tell whether thing has the form of a code, whatever its gets hold and wherever their words stand."""
    if not isinstance(thing, tuple) or len(thing) == 0:
        return False
    if thing[0] == "end":
        return len(thing) == 2 and isinstance(thing[1], tuple) and all([is_name(word) for word in thing[1]])
    if thing[0] == "same":
        return len(thing) == 5 and is_name(thing[1]) and is_name(thing[2]) and _have_form(thing[3:])
    if thing[0] != "call" or len(thing) != 6 or not is_name(thing[1]) or not is_given(thing[2]):
        return False
    gets = thing[3]
    return isinstance(gets, tuple) and len(gets) > 0 and _have_form(thing[4:])


def _have_form(things):
    """Tell whether all things have the form of a code."""
    return all([_has_form(thing) for thing in things])


def _gets_in(code):
    """Return the list of the words of all gets in a code."""
    words = list(code[3]) if code[0] == "call" else []
    for part in codes_in(code):
        words.extend(_gets_in(part))
    return words


def _words_for(code):
    """Return the list of the words in a code, some perhaps several times, but for those of gets in their some."""
    if code[0] == "end":
        return list(code[1])
    if code[0] == "same":
        return [code[1], code[2]] + _words_for(code[3]) + _words_for(code[4])
    given = [] if code[2] == "" else [code[2]]
    some = [word for word in _words_for(code[4]) if word not in code[3]]
    return [code[1]] + given + some + _words_for(code[5])


def _is_number(thing):
    """Tell whether thing is an integer from 0 on."""
    return is_integer(thing) and thing >= 0


def _are_numbers(thing):
    """Tell whether thing is a list of integers from 0 on."""
    return isinstance(thing, list) and all([_is_number(part) for part in thing])
