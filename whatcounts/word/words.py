"""Words: texts in which letters can also be undone."""

from whatcounts.base.checks import check_between, check_most, check_signed
from whatcounts.base.made import Made
from whatcounts.base.names import MAX_TEXT, check_letters, is_integer
from whatcounts.errors import InvalidNumber, InvalidOperation, InvalidWord
from whatcounts.word.runs import bracket_runs, joined_runs, runs_of_signs, signs_of_runs, undone_runs

MAX_RUNS = 200
MAX_POWER = 400


def check_word(value):
    """Raise an error unless the value is a word."""
    if not isinstance(value, Word):
        raise InvalidWord("a word is wanted")


def is_row_of_runs(letters, value):
    """Whether the value is a tuple of pairs of a letter and an integer."""
    return isinstance(value, tuple) and all([is_run(letters, pair) for pair in value])


def is_run(letters, value):
    """Whether the value is a pair of a letter and an integer."""
    if not isinstance(value, tuple) or len(value) != 2:
        return False
    letter, exponent = value
    return isinstance(letter, str) and len(letter) == 1 and letter in letters and is_integer(exponent)


class Word:
    """A word, told by its runs. It never changes."""

    def __init__(self, letters, runs):
        check_letters(letters)
        if isinstance(runs, Made):
            left = joined_runs(runs.content)
        elif is_row_of_runs(letters, runs):
            left = joined_runs(runs)
        else:
            raise InvalidOperation(f"runs are a tuple of pairs of one of the letters {letters} and an integer")
        check_most(len(left), MAX_RUNS)
        self._letters = letters
        self._runs = left

    @classmethod
    def of(cls, letters, text):
        """The word of a signed text."""
        check_signed(letters, text)
        return cls(letters, runs_of_signs(text))

    @property
    def letters(self):
        """The letters."""
        return self._letters

    @property
    def runs(self):
        """The tuple of the runs."""
        return self._runs

    @property
    def size(self):
        """The number of signs of the shortest signed text."""
        return sum([abs(exponent) for _, exponent in self._runs])

    def __getitem__(self, at):
        if not is_integer(at) or at < 0 or at >= len(self._runs):
            raise InvalidNumber(at)
        return self._runs[at]

    def __len__(self):
        return len(self._runs)

    def __iter__(self):
        return iter(self._runs)

    def __eq__(self, other):
        return isinstance(other, Word) and self._letters == other._letters and self._runs == other._runs

    def __str__(self):
        return f"word of {len(self._runs)} runs over {self._letters}"

    def __mul__(self, other):
        if not isinstance(other, Word) or other._letters != self._letters:
            raise InvalidOperation("the other operand is no word with the same letters")
        return Word(self._letters, Made(self._runs + other._runs))

    def __invert__(self):
        return Word(self._letters, Made(undone_runs(self._runs)))

    def power(self, number):
        """So many of the word, or of it undone, one behind the other."""
        check_between(number, -MAX_POWER, MAX_POWER)
        once = self._runs if number > 0 else undone_runs(self._runs)
        return Word(self._letters, Made(once * abs(number)))

    def turned(self, other):
        """The word with another one ahead of it, and that one undone behind it."""
        self._check_like(other)
        return Word(self._letters, Made(other._runs + self._runs + undone_runs(other._runs)))

    def bracket(self, other):
        """The word, another one, the word undone and the other one undone."""
        self._check_like(other)
        return Word(self._letters, Made(bracket_runs(self._runs, other._runs)))

    def shortest(self):
        """The shortest signed text."""
        check_most(self.size, MAX_TEXT)
        return signs_of_runs(self._runs)

    def is_plain(self):
        """Whether no exponent is less than 0."""
        return all([exponent > 0 for _, exponent in self._runs])

    def _check_like(self, other):
        check_word(other)
        if other._letters != self._letters:
            raise InvalidOperation("the words have unlike letters")
