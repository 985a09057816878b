"""Notation: gates, houses, deeds, wishes, stands and codes as texts."""


def show_gate(gate):
    """Return the text of a Gate."""
    rows = [["gate", str(gate.states)], ["doors"] + gate.doors(), ["closet"] + gate.closet()]
    for door, state, kind, later, keeps, told in gate.rules():
        row = ["rule", door, str(state), _or_dash(kind), str(later), "keeps" if keeps else "-"]
        rows.append(row + list(told))
    return _lines(rows)


def show_house(house):
    """Return the text of a House."""
    gates = [show_gate(gate) for gate in house.gates()]
    first = [["first", guest, name] for guest, name in house.first()]
    return _lines([["guests"] + house.guests(), ["things"] + house.things()]) + "".join(gates) + _lines(first)


def show_deed(deed):
    """Return the text of a deed."""
    return " ".join([_or_dash(word) for word in deed])


def show_deeds(deeds):
    """Return the text of a list of deeds."""
    return _lines([[show_deed(deed)] for deed in deeds])


def show_wish(wish):
    """Return the text of a wish."""
    return ", ".join([guest + " " + name for guest, name in wish])


def show_stand(stand):
    """Return the text of a stand."""
    gates = [["at", str(state), _or_dash(kept)] for state, kept in stand[0]]
    return _lines(gates + [["held", guest] + list(names) for guest, names in stand[1]])


def show_code(code):
    """Return the text of a code."""
    if code[0] == "end":
        return "end(" + " ".join(code[1]) + ")"
    if code[0] == "same":
        return "same(" + code[1] + " " + code[2] + " ? " + show_code(code[3]) + " : " + show_code(code[4]) + ")"
    head = "call(" + code[1] + " " + _or_dash(code[2]) + ": " + " ".join(code[3])
    return head + " ? " + show_code(code[4]) + " : " + show_code(code[5]) + ")"


def _or_dash(word):
    """Return a word, or a dash for none."""
    return "-" if word == "" else word


def _lines(rows):
    """Return lines of words, each with its line feed."""
    return "".join([" ".join(row) + "\n" for row in rows])
