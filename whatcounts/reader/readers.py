"""Readers: functions on texts that answer yes or no state by state."""

from whatcounts.base.checks import check_between, check_most, check_text
from whatcounts.base.names import MAX_TEXT, check_letters, has_only, is_integer
from whatcounts.errors import InvalidNumber, InvalidOperation, InvalidReader
from whatcounts.reader.walks import first_hope, first_pair_texts, first_texts, hopes_of, next_hope, numbered

MAX_STATES = 60
# which answers of the one and of the other make both, at least one, just one of both
BOTH = ((True, True),)
SOME = ((True, True), (True, False), (False, True))
ONE = ((True, False), (False, True))


def check_reader(value):
    """Raise an error unless the value is a reader."""
    if not isinstance(value, Reader):
        raise InvalidReader("a reader is wanted")


def is_state(value, many):
    """Whether the value is one of so many states."""
    return is_integer(value) and 0 <= value < many


def is_row_of_states(value, many):
    """Whether the value is a tuple that tells for each of so many states another one."""
    return isinstance(value, tuple) and len(value) == many and all([is_state(state, many) for state in value])


def are_reader_moves(letters, value):
    """Whether the value is a dict from each letter to the states to which it leads one to sixty states."""
    if not isinstance(value, dict) or len(value) != len(letters) or not isinstance(value.get(letters[0]), tuple):
        return False
    many = len(value[letters[0]])
    rows = [letter in value and is_row_of_states(value[letter], many) for letter in letters]
    return 1 <= many <= MAX_STATES and all(rows)


def are_yes_states(value, many):
    """Whether the value is an ascending tuple of some of so many states."""
    if not isinstance(value, tuple) or not all([is_state(state, many) for state in value]):
        return False
    return all([one < other for one, other in zip(value, value[1:])])


class Reader:
    """States, the moves of the letters among them, and those that answer yes. It never changes."""

    def __init__(self, letters, moves, yes):
        check_letters(letters)
        if not are_reader_moves(letters, moves):
            raise InvalidOperation("the moves are a dict from each letter to a tuple of a state for each state")
        if not are_yes_states(yes, len(moves[letters[0]])):
            raise InvalidOperation("yes is an ascending tuple of states")
        self._letters = letters
        self._moves = {letter: moves[letter] for letter in letters}
        self._yes = yes

    @property
    def letters(self):
        """The letters."""
        return self._letters

    @property
    def moves(self):
        """The dict from the letters to the states to which they lead each state."""
        return dict(self._moves)

    @property
    def yes(self):
        """The tuple of the states that answer yes."""
        return self._yes

    def led(self, state, text):
        """The state to which a text leads a state."""
        if not is_state(state, len(self)):
            raise InvalidNumber(state)
        check_text(self._letters, text)
        return self._led(state, text)

    def behind(self, text):
        """The reader that answers to texts as this one does with a text behind them."""
        check_text(self._letters, text)
        yes = [state for state in range(len(self)) if self._led(state, text) in self._yes]
        return Reader(self._letters, self._moves, tuple(yes))

    def ahead(self, text):
        """The reader that answers to texts as this one does with a text ahead of them."""
        check_text(self._letters, text)
        states = list(first_texts(self._moves, self._led(0, text)))
        number = numbered(states)
        moves = {letter: tuple([number[row[state]] for state in states]) for letter, row in self._moves.items()}
        return Reader(self._letters, moves, tuple([number[state] for state in states if state in self._yes]))

    def texts(self, size):
        """Tell the texts of a size that are answered with yes, in order."""
        check_between(size, 0, MAX_TEXT)
        hopes = hopes_of(self._moves, self._yes, len(self), size)
        text = first_hope(self._moves, hopes, 0, size)
        while text is not None:
            yield text
            text = next_hope(self._moves, hopes, text)

    def __len__(self):
        return len(self._moves[self._letters[0]])

    def __contains__(self, value):
        return has_only(value, self._letters, MAX_TEXT) and self._led(0, value) in self._yes

    def __eq__(self, other):
        return (isinstance(other, Reader) and self._letters == other._letters and self._moves == other._moves
                and self._yes == other._yes)

    def __str__(self):
        return f"reader of {len(self)} states over {self._letters}"

    def __invert__(self):
        yes = [state for state in range(len(self)) if state not in self._yes]
        return Reader(self._letters, self._moves, tuple(yes))

    def __and__(self, other):
        return self._paired(other, BOTH)

    def __or__(self, other):
        return self._paired(other, SOME)

    def __xor__(self, other):
        return self._paired(other, ONE)

    def _paired(self, other, answers):
        if not isinstance(other, Reader) or other._letters != self._letters:
            raise InvalidOperation("the other operand is no reader with the same letters")
        pairs = list(first_pair_texts(self._moves, other._moves, MAX_STATES))
        check_most(len(pairs), MAX_STATES)
        number = numbered(pairs)
        moves = {
            letter: tuple([number[(row[left], other._moves[letter][right])] for left, right in pairs])
            for letter, row in self._moves.items()
        }
        yes = [number[pair] for pair in pairs if (pair[0] in self._yes, pair[1] in other._yes) in answers]
        return Reader(self._letters, moves, tuple(yes))

    def _led(self, state, text):
        led = state
        for letter in text:
            led = self._moves[letter][led]
        return led
