"""Narrowed: which doors have to be exchanged for facets, so that a wish cannot come."""

from letinside.facets import faceted
from letinside.reach import can

SIGNS = "abcdefghijklmnopqrstuvwxyz"
# Each word with how strongly it narrows; the weaker of two words in one row narrows less.
STRENGTHS = {"all": 0, "bare": 2, "known": 1, "none": 3, "once": 1}
ROWS = (("none", "bare", "known", "all"), ("none", "once", "all"))


def choice_house(house, pairs, choice):
    """Return the House in which the facets of a choice are put in the place of the doors of first pairs."""
    less = house
    for (guest, door), word in zip(pairs, choice):
        if word != "all":
            less = faceted(less, guest, door, word, _free_name(less))
    return less


def keeps_out(house, acting, wish, pairs, choice):
    """Tell whether a wish cannot come in the House of a choice."""
    return not can(choice_house(house, pairs, choice), acting, wish)


def weakest(house, acting, wish, pairs):
    """Return the ascending list of the choices that keep a wish out, and than which no weaker one does."""
    found = []
    # Of the choices that are weaker than one and keep the wish out, a weakest one has been found ahead of it.
    for choice in sorted(_choices(len(pairs)), key=_strength):
        if not any([_is_weaker(other, choice) for other in found]) and keeps_out(house, acting, wish, pairs, choice):
            found.append(choice)
    return sorted(found)


def _free_name(house):
    """Return the first name in the row a, b, .., z, aa, ab, .. that no object has."""
    taken = house.objects()
    number = 0
    while _name_at(number) in taken:
        number += 1
    return _name_at(number)


def _name_at(number):
    """Return the name with this number in the row a, b, .., z, aa, ab, .."""
    name = SIGNS[number % 26]
    while number >= 26:
        number = number // 26 - 1
        name = SIGNS[number % 26] + name
    return name


def _choices(many):
    """Return the list of all choices of so many words."""
    choices = [()]
    for _ in range(many):
        choices = [choice + (word,) for choice in choices for word in STRENGTHS]
    return choices


def _strength(choice):
    """Return how strongly a choice narrows, less for a weaker one."""
    return sum([STRENGTHS[word] for word in choice])


def _is_weaker(one, other):
    """Tell whether one choice is weaker than another one."""
    return one != other and all([mine == word or _is_weaker_word(mine, word) for mine, word in zip(one, other)])


def _is_weaker_word(one, other):
    """Tell whether one word is weaker than another one."""
    return any([one in row and other in row and row.index(one) > row.index(other) for row in ROWS])
