"""Far texts: programs, which tell texts that can have very many letters, and what can be reckoned of them."""

from whatcounts.base.checks import check_between, check_most, check_pattern, check_some_prime, check_text
from whatcounts.base.made import Made
from whatcounts.base.names import MAX_TEXT, check_letters
from whatcounts.base.texts import all_texts
from whatcounts.count.counts import MAX_WEIGHT
from whatcounts.count.shared import parts_of
from whatcounts.errors import InvalidNumber, InvalidOperation, InvalidProgram
from whatcounts.far.rounds import newton_numbers, round_of_answers
from whatcounts.far.steps import MAX_NUMBER, are_steps, is_between, letter_at, made_by, shifted_steps, step_sizes
from whatcounts.far.tools import CountTool, SquareTool, StateTool, TextTool
from whatcounts.reader.readers import check_reader, is_state
from whatcounts.sums.sums import check_sum
from whatcounts.table.tables import Table, check_depth
from whatcounts.tally.squares import dot, turned_square
from whatcounts.tally.tallies import check_tally

MAX_STEPS = 40
MAX_SIZE = (10 ** 50) ** 8


def check_program(value):
    """Raise an error unless the value is a program."""
    if not isinstance(value, Program):
        raise InvalidProgram("a program is wanted")


def check_like(one, program):
    """Raise an error unless an object has the letters of a program."""
    if one.letters != program.letters:
        raise InvalidOperation("the letters are not those of the program")


class Program:
    """Steps that tell a text, which can have very many letters. It never changes."""

    def __init__(self, letters, steps):
        check_letters(letters)
        if not are_steps(letters, steps, MAX_STEPS):
            raise InvalidProgram("a program has a tuple of one to forty steps")
        self._letters = letters
        self._steps = steps
        self._sizes = step_sizes(steps, MAX_SIZE)

    @classmethod
    def of(cls, letters, text):
        """The program with one step, a text."""
        check_text(letters, text)
        return cls(letters, (("text", text),))

    @property
    def letters(self):
        """The letters."""
        return self._letters

    @property
    def steps(self):
        """The tuple of the steps."""
        return self._steps

    @property
    def size(self):
        """The number of letters of the text."""
        return self._sizes[-1]

    def power(self, number):
        """The program with one step more, so many of the text."""
        check_between(number, 0, MAX_NUMBER)
        return self._with(self._steps + (("power", len(self._steps) - 1, number),))

    def text(self):
        """The text."""
        check_most(self._sizes[-1], MAX_TEXT)
        return made_by(self._steps, TextTool())

    def __getitem__(self, at):
        if not is_between(at, self._sizes[-1] - 1):
            raise InvalidNumber(at)
        return letter_at(self._steps, self._sizes, at)

    def __iter__(self):
        raise TypeError("a program is not iterated over")

    def __len__(self):
        return len(self._steps)

    def __eq__(self, other):
        return isinstance(other, Program) and self._letters == other._letters and self._steps == other._steps

    def __str__(self):
        return f"program of {len(self._steps)} steps over {self._letters}"

    def __add__(self, other):
        if not isinstance(other, Program) or other._letters != self._letters:
            raise InvalidOperation("the other operand is no program with the same letters")
        many = len(self._steps)
        join = ("join", many - 1, many + len(other._steps) - 1)
        return self._with(self._steps + shifted_steps(other._steps, many) + (join,))

    def _with(self, steps):
        check_most(len(steps), MAX_STEPS)
        return Program(self._letters, steps)


def far_count(program, pattern):
    """The count of a pattern in the text of a program."""
    check_program(program)
    check_pattern(program.letters, pattern)
    check_most(len(pattern), MAX_WEIGHT)
    return made_by(program.steps, CountTool(parts_of([pattern]), None))[pattern]


def far_sum(total, program):
    """The number of a sum at the text of a program."""
    check_sum(total)
    check_program(program)
    check_like(total, program)
    weights = total.weights
    counts = made_by(program.steps, CountTool(parts_of(weights), total.prime))
    number = sum([number * counts[pattern] for pattern, number in weights.items()])
    return number if total.prime is None else number % total.prime


def far_tally(tally, program):
    """The number of a tally with a prime at the text of a program."""
    check_tally(tally)
    check_program(program)
    check_like(tally, program)
    if tally.prime is None:
        raise InvalidOperation("the tally is exact")
    square = made_by(program.steps, SquareTool(tally.moves, len(tally), tally.prime))
    row = [dot(tally.first, column) for column in turned_square(square)]
    return dot(row, tally.last) % tally.prime


def far_table(program, depth, *, prime=None):
    """The table of the counts of the text of a program."""
    check_program(program)
    check_depth(depth)
    check_some_prime(prime)
    counts = made_by(program.steps, CountTool(all_texts(program.letters, depth), prime))
    return Table(program.letters, depth, Made(list(counts.values())[1:]), prime=prime)


def far_state(reader, state, program):
    """The state to which the text of a program leads a state of a reader."""
    check_reader(reader)
    if not is_state(state, len(reader)):
        raise InvalidNumber(state)
    check_program(program)
    check_like(reader, program)
    return made_by(program.steps, StateTool(reader.moves, len(reader)))[state]


def far_answer(reader, program):
    """Whether a reader answers yes to the text of a program."""
    return far_state(reader, 0, program) in reader.yes


def newton(total, text):
    """The tuple of the numbers that tell those of a sum at so many of a text, without zeros at its end."""
    check_sum(total)
    check_text(total.letters, text)
    return tuple(newton_numbers(total.weights, text, total.prime))


def period(total, text):
    """The least number of times a text after which the numbers of a sum with a prime come round."""
    numbers = newton(total, text)
    if total.prime is None:
        raise InvalidOperation("the sum is exact")
    power = 1
    while power < len(numbers):
        power = power * total.prime
    return power


def round_of(reader, text):
    """The pair of the start and the period with which the answers to so many of a text come round."""
    check_reader(reader)
    check_text(reader.letters, text)
    return round_of_answers(StateTool(reader.moves, len(reader)).written(text), reader.yes)
