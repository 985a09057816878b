"""Codes and visits, and a second, plain way to work out what they do, for the tests."""

import random

DEPUTY = ("call", "box", "", ("it",), ("same", "it", "mine", ("call", "out", "it", ("x",), ("end", ("x",)), ("end",
                                                                                                             ())),
                                      ("end", ("it",))), ("end", ()))


def random_code(seed, words=("wa", "wb", "wc"), calls=2, sames=2, most_gets=2):
    """A code that depends on the seed alone, with so many calls and sames on a way."""
    chance = random.Random(seed)
    return _made(chance, list(words), [calls, sames, most_gets], [0])


def _made(chance, words, left, many):
    """A code over these words, with so many calls, sames and gets left; many counts the words of gets so far."""
    kinds = ["end"] + ["call"] * 3 * (left[0] > 0) + ["same"] * 3 * (left[1] > 0)
    kind = chance.choice(kinds)
    if kind == "end":
        return ("end", tuple(chance.choice(words) for _ in range(chance.randint(0, 2))))
    if kind == "same":
        less = [left[0], left[1] - 1, left[2]]
        return ("same", chance.choice(words), chance.choice(words), _made(chance, words, less, many),
                _made(chance, words, less, many))
    gets = []
    for _ in range(chance.randint(1, left[2])):
        gets.append("g" + "abcdefghijklmnopqrstuvwxyz"[many[0] // 26] + "abcdefghijklmnopqrstuvwxyz"[many[0] % 26])
        many[0] += 1
    less = [left[0] - 1, left[1], left[2]]
    return ("call", chance.choice(words), chance.choice(words + [""]), tuple(gets),
            _made(chance, words + gets, less, many), _made(chance, words, less, many))


def words_in(code):
    """All words of a code, each as often as it stands there, those of gets too."""
    if code[0] == "end":
        return list(code[1])
    if code[0] == "same":
        return [code[1], code[2]] + words_in(code[3]) + words_in(code[4])
    return [word for word in (code[1], code[2]) if word] + list(code[3]) + words_in(code[4]) + words_in(code[5])


def parts_of(code):
    """All codes within a code, itself first."""
    within = {"end": (), "call": code[4:], "same": code[3:]}[code[0]]
    return [code] + [part for inner in within for part in parts_of(inner)]


def plain_letter(code):
    """The words that are in no gets, ascending."""
    gets = [word for part in parts_of(code) if part[0] == "call" for word in part[3]]
    return sorted(set(words_in(code)) - set(gets))


def _is_word(thing):
    return type(thing) is str and 1 <= len(thing) <= 8 and set(thing) <= set("abcdefghijklmnopqrstuvwxyz")


def _has_shape(thing):
    if type(thing) is not tuple or not thing or type(thing[0]) is not str:
        return False
    if thing[0] == "end" and len(thing) == 2:
        return type(thing[1]) is tuple and all(map(_is_word, thing[1]))
    if thing[0] == "same" and len(thing) == 5:
        return _is_word(thing[1]) and _is_word(thing[2]) and _has_shape(thing[3]) and _has_shape(thing[4])
    if thing[0] == "call" and len(thing) == 6:
        if not _is_word(thing[1]) or not (_is_word(thing[2]) or type(thing[2]) is str and thing[2] == ""):
            return False
        if type(thing[3]) is not tuple or not thing[3] or not all(map(_is_word, thing[3])):
            return False
        return _has_shape(thing[4]) and _has_shape(thing[5])
    return False


def plain_is_code(thing):
    """Whether thing is a code, by counting where the words of gets stand."""
    if not _has_shape(thing):
        return False
    everywhere = words_in(thing)
    for part in parts_of(thing):
        if part[0] == "call":
            for word in part[3]:
                if everywhere.count(word) != 1 + words_in(part[4]).count(word):
                    return False
    return True


def plain_ran(code, things, answers):
    """The calls and what is told at the end, by going down the code."""
    if code[0] == "end":
        return ([], [things[word] for word in code[1]])
    if code[0] == "same":
        one, other = things[code[1]], things[code[2]]
        return plain_ran(code[3] if one is not None and other is not None and one == other else code[4], things,
                         answers)
    if things[code[1]] is None:
        return plain_ran(code[5], things, answers)
    told = answers[0] if answers else []
    given = things[code[2]] if code[2] else None
    if len(told) >= len(code[3]):
        calls, end = plain_ran(code[4], {**things, **dict(zip(code[3], told))}, answers[1:])
    else:
        calls, end = plain_ran(code[5], things, answers[1:])
    return ([(things[code[1]], given)] + calls, end)


def lengths_of(codes):
    """The most gets that the first, the second, .. call of one of these codes can have."""
    if not codes:
        return []
    found = {}
    for code in codes:
        _note_lengths(code, 0, found)
    return [found[at] for at in sorted(found)]


def _note_lengths(code, calls, found):
    if code[0] == "call":
        found[calls] = max(found.get(calls, 0), len(code[3]))
        _note_lengths(code[4], calls + 1, found)
        # A call that is not made takes no answers.
        _note_lengths(code[5], calls, found)
        _note_lengths(code[5], calls + 1, found)
    if code[0] == "same":
        _note_lengths(code[3], calls, found)
        _note_lengths(code[4], calls, found)


def plain_cases(words, lengths):
    """All cases of these words, but for those that are like others with other things, or longer answers."""
    for things, top in _numbered(list(words), {}, 0):
        yield from ((things, answers) for answers in _answered(lengths, [], top))


def _numbered(words, things, top):
    if not words:
        yield (things, top)
        return
    for worth in [None, *range(top + 1)]:
        more = top + 1 if worth == top else top
        yield from _numbered(words[1:], {**things, words[0]: worth}, more)


def _answered(lengths, answers, top):
    if not lengths:
        yield answers
        return
    for many in range(lengths[0] + 1):
        for told, more in _rows(many, [], top):
            yield from _answered(lengths[1:], answers + [told], more)


def _rows(many, row, top):
    if many == 0:
        yield (row, top)
        return
    for worth in range(top + 1):
        yield from _rows(many - 1, row + [worth], top + 1 if worth == top else top)


def plain_parts(one, other, words):
    """Whether some case of these words parts two codes."""
    return any(plain_ran(one, *case) != plain_ran(other, *case)
               for case in plain_cases(words, lengths_of([one, other])))


def plain_needs(code):
    """The words that are needed."""
    found = []
    for word in plain_letter(code):
        for things, answers in plain_cases(plain_letter(code), lengths_of([code])):
            if things[word] is not None:
                if plain_ran(code, things, answers) != plain_ran(code, {**things, word: None}, answers):
                    found.append(word)
                    break
    return found


def places_of_sames(code, way=()):
    """The places of all sames, those within others ahead of them."""
    found = []
    for at in {"end": (), "call": (4, 5), "same": (3, 4)}[code[0]]:
        found += places_of_sames(code[at], way + (at,))
    return found + [way] * (code[0] == "same")


def part_at(code, way):
    """The part of a code at a place."""
    return part_at(code[way[0]], way[1:]) if way else code


def with_part(code, way, part):
    """The code with another part at a place."""
    return code[:way[0]] + (with_part(code[way[0]], way[1:], part),) + code[way[0] + 1:] if way else part


def plain_plain(code):
    """The plain code: each same in turn is exchanged for its no if the whole does the same then."""
    words = plain_letter(code)
    for way in places_of_sames(code):
        less = with_part(code, way, part_at(code, way)[4])
        if not plain_parts(code, less, words):
            code = less
    return code
