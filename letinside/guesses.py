"""Guesses: cases that are settled only as far as codes ask about them.

A MARK is a word of a letter, or a tuple (call, at) for what the call with this number is told at this
place. What of a code's way depends on a case is whether words are missing, whether the things of two marks
are the same, and whether a call is told enough; each of these is settled when it is asked for, by the next
truth of a row, unless it comes of what has been settled before. So each row leads to one way, and the rows
one after another lead to all of them.
"""


class Guess:
    """One case, as far as it has been asked for."""

    def __init__(self, row, present):
        self._row = list(row)
        self._asked = 0
        self._missing = {word: False for word in present}
        self._leaders = {}
        self._unlike = []
        self._told = []

    def is_missing(self, word):
        """Tell whether a word of the letter is missing."""
        if word not in self._missing:
            self._missing[word] = self._next_truth()
        return self._missing[word]

    def are_same(self, one, other):
        """Tell whether the things of two marks are the same."""
        mine, theirs = self._leader(one), self._leader(other)
        if mine == theirs:
            return True
        if self._are_unlike(mine, theirs):
            return False
        if not self._next_truth():
            self._unlike.append((mine, theirs))
            return False
        for mark in list(self._leaders):
            if self._leaders[mark] == theirs:
                self._leaders[mark] = mine
        self._leaders[theirs] = mine
        return True

    def is_enough(self, call, many):
        """Tell whether a call, its number being at most one more than those asked for so far, is told so many."""
        if call == len(self._told):
            self._told.append((0, None))
        least, less = self._told[call]
        if least >= many:
            return True
        if less is not None and less <= many:
            return False
        enough = self._next_truth()
        self._told[call] = (many, less) if enough else (least, many)
        return enough

    def case(self, words):
        """Return a case of these words that is as told, in which all other things are there, and unlike."""
        numbers = {}
        things = {word: None if self._missing.get(word, False) else self._number(numbers, word) for word in words}
        answers = []
        for call, (least, _) in enumerate(self._told):
            answers.append([self._number(numbers, (call, at)) for at in range(least)])
        return (things, answers)

    def next_row(self):
        """Return the row for the next guess, or None if there is none."""
        row = list(self._row)
        while len(row) > 0 and row[-1]:
            row.pop()
        return row[:-1] + [True] if len(row) > 0 else None

    def _next_truth(self):
        """Return the next truth of the row, which goes on with False."""
        if self._asked == len(self._row):
            self._row.append(False)
        self._asked += 1
        return self._row[self._asked - 1]

    def _leader(self, mark):
        """Return the mark that stands for all that are known to be the same as this one."""
        return self._leaders.get(mark, mark)

    def _are_unlike(self, mine, theirs):
        """Tell whether the things of two leaders are known to be unlike."""
        pairs = [(self._leader(one), self._leader(other)) for one, other in self._unlike]
        return (mine, theirs) in pairs or (theirs, mine) in pairs

    def _number(self, numbers, mark):
        """Return the thing of a mark, another one for each leader."""
        return numbers.setdefault(self._leader(mark), len(numbers))
