"""Code words: the text of a code taken word by word; what stands between the words is not looked at here."""

from letinside.errors import NoText

# A text with far more codes within one another than any other code has is not gone into.
DEEPEST = 100


class CodeWords:
    """The words and signs of a text, which are to be those of a code."""

    def __init__(self, text):
        spread = text
        for sign in "():?":
            spread = spread.replace(sign, " " + sign + " ")
        self._words = [word for word in spread.split(" ") if word != ""]
        self._at = 0

    def take_code(self, deep):
        """Take the words of a code that lies so deep within others, and return what is to be the code."""
        head = self._take_word()
        self._take_sign("(")
        if deep > DEEPEST:
            raise NoText(1)
        if head == "end":
            return ("end", self._take_row(")"))
        if head == "same":
            pair = self._take_pair("?")
            return ("same",) + pair + self._take_two(deep)
        if head != "call":
            raise NoText(1)
        door, given = self._take_pair(":")
        gets = self._take_row("?")
        return ("call", door, "" if given == "-" else given, gets) + self._take_two(deep)

    def _take_two(self, deep):
        """Take the words of the two codes with which a call or a same goes on, and return these."""
        one = self.take_code(deep + 1)
        self._take_sign(":")
        other = self.take_code(deep + 1)
        self._take_sign(")")
        return (one, other)

    def _take_pair(self, sign):
        """Take two words up to a sign, and return them."""
        row = self._take_row(sign)
        if len(row) != 2:
            raise NoText(1)
        return row

    def _take_row(self, sign):
        """Take all words up to a sign, and return them."""
        row = []
        word = self._take_word()
        while word != sign:
            row.append(word)
            word = self._take_word()
        return tuple(row)

    def _take_sign(self, sign):
        """Take a word that is to be this sign."""
        if self._take_word() != sign:
            raise NoText(1)

    def _take_word(self):
        """Take the next word, and return it."""
        if self._at == len(self._words):
            raise NoText(1)
        self._at += 1
        return self._words[self._at - 1]
