"""What any value is: an integer, a name, names, a wish, a deed."""


def is_integer(thing):
    """Tell whether thing is an int and no truth."""
    return isinstance(thing, int) and not isinstance(thing, bool)


def is_below(thing, many):
    """Tell whether thing is an integer from 0 to one less than many."""
    return is_integer(thing) and 0 <= thing < many


def is_name(thing):
    """Tell whether thing is a string of one to eight letters a to z."""
    if not isinstance(thing, str) or not 1 <= len(thing) <= 8:
        return False
    return all(["a" <= sign <= "z" for sign in thing])


def are_names(thing):
    """Tell whether thing is a list or a tuple of different names."""
    if not isinstance(thing, (list, tuple)) or not all([is_name(part) for part in thing]):
        return False
    return len(set(thing)) == len(thing)


def is_pair(thing):
    """Tell whether thing is a tuple of two names."""
    return isinstance(thing, tuple) and len(thing) == 2 and is_name(thing[0]) and is_name(thing[1])


def are_pairs_of_names(thing):
    """Tell whether thing is a list or a tuple of tuples of two names."""
    return isinstance(thing, (list, tuple)) and all([is_pair(part) for part in thing])


def is_wish(thing):
    """Tell whether thing has the form of a wish."""
    if not isinstance(thing, tuple) or len(thing) == 0 or not are_pairs_of_names(thing):
        return False
    return all([one < other for one, other in zip(thing, thing[1:])])


def is_given(thing):
    """Tell whether thing is what may be given in a call, a name or "" for nothing."""
    return is_name(thing) or thing == ""


def is_deed(thing):
    """Tell whether thing has the form of a deed."""
    if not isinstance(thing, tuple) or len(thing) == 0:
        return False
    if thing[0] == "throw":
        return len(thing) == 2 and is_name(thing[1])
    if len(thing) != 4 or not is_name(thing[1]) or not is_name(thing[2]):
        return False
    if thing[0] == "hand":
        return thing[1] != thing[2] and is_name(thing[3])
    return thing[0] == "call" and is_given(thing[3])
