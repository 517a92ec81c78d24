"""The different reduced rules that a rule spells: how many there are, and their numbers in ascending order."""

from daychains.rules import reduced


class Spelled:
    """The reduced rules with up to `most` letters that a rule spells, each of them once.

    Each one is taken at its least indices, letter by letter: a letter is placed at the first index at which it can be.
    """

    def __init__(self, rule, most):
        self._letters = reduced(rule)
        self._again = self._next_same()
        self._begun = self._begun_at(most)

    def total(self, size):
        """Return the number of those with so many letters."""
        if size == 0:
            return 1
        return sum([many for _, _, many in self._choices(0, None, size)])

    def numbered(self, size, number):
        """Return the one with this number among those with so many letters."""
        found = []
        start = 0
        last = None
        for left in range(size, 0, -1):
            letter, at, before = self._choice_of(start, last, left, number)
            found.append(letter)
            start, last, number = at + 1, letter, number - before
        return found

    def number_of(self, below):
        """Return the number of this one among those with as many letters."""
        number = 0
        start = 0
        last = None
        for place, letter in enumerate(below):
            for choice, _, many in self._choices(start, last, len(below) - place):
                if choice < letter:
                    number += many
            start, last = self._letters.index(letter, start) + 1, letter
        return number

    def _choice_of(self, start, last, left, number):
        """Return the next letter of the one with this number, its index, and how many come before this letter."""
        before = 0
        for letter, at, many in self._choices(start, last, left):
            if number < before + many:
                break
            before += many
        return letter, at, before

    def _choices(self, start, last, left):
        """Return, ascending, the next letters behind the last one: the letter, its index, and how many begin with it.

        They begin at the index `start` or later and have as many letters as are left.
        """
        first = {}
        for at in range(start, len(self._letters)):
            letter = self._letters[at]
            if letter not in first and (letter == "+" or letter != last):
                first[letter] = at
        return [(letter, first[letter], self._begun[left][first[letter]]) for letter in sorted(first)]

    def _next_same(self):
        """Return for each index the next one that has the same letter, or the number of letters if there is none."""
        following = {}
        again = []
        for at in range(len(self._letters) - 1, -1, -1):
            again.append(following.get(self._letters[at], len(self._letters)))
            following[self._letters[at]] = at
        return again[::-1]

    def _begun_at(self, most):
        """Return, for each number of letters up to `most`, how many begin with the letter at each index, there."""
        behind = len(self._letters)
        begun = [[0] * (behind + 1)]
        # How many there are from each index on, whatever their first letter is.
        every = [1] * (behind + 1)
        for _ in range(most):
            before, fewer = begun[-1], every
            now = [0] * (behind + 1)
            every = [0] * (behind + 1)
            for at in range(behind - 1, -1, -1):
                now[at] = fewer[at + 1]
                if self._letters[at] != "+":
                    # An office does not follow itself.
                    now[at] -= before[self._again[at]]
                # Those that begin with the same letter further on also begin with it here.
                every[at] = every[at + 1] + now[at] - now[self._again[at]]
            begun.append(now)
        return begun
