"""Groups of turns of points."""

from whatcounts.base.checks import check_between, check_most
from whatcounts.base.names import check_letters, is_integer
from whatcounts.errors import InvalidGroup, InvalidOperation, NotTurning
from whatcounts.group.moves import first_turn_texts, joint_of, order_of, raised_turn, still_turn, undone_of
from whatcounts.group.spans import TurnSpan
from whatcounts.reader.least import first_merge, least_reader
from whatcounts.word.words import check_word

MAX_POINTS = 60
MAX_TURNS = 2000


def check_group(value):
    """Raise an error unless the value is a group."""
    if not isinstance(value, Group):
        raise InvalidGroup("a group is wanted")


def is_turn_of(points, value):
    """Whether the value is a turn of so many points."""
    if not isinstance(value, tuple) or len(value) != points or not all([is_integer(point) for point in value]):
        return False
    return sorted(value) == list(range(points))


def is_turn(value):
    """Whether the value is a turn of one to sixty points."""
    return isinstance(value, tuple) and 1 <= len(value) <= MAX_POINTS and is_turn_of(len(value), value)


def are_group_moves(letters, value):
    """Whether the value is a dict from each letter to a turn, all of as many points."""
    if not isinstance(value, dict) or len(value) != len(letters) or not is_turn(value.get(letters[0])):
        return False
    return all([letter in value and is_turn_of(len(value[letters[0]]), value[letter]) for letter in letters])


class Group:
    """A turn for each letter, and all turns that are made of them. It never changes."""

    def __init__(self, letters, moves):
        check_letters(letters)
        if not are_group_moves(letters, moves):
            raise InvalidOperation("the moves are a dict from each letter to a turn of one to sixty points")
        self._letters = letters
        self._moves = {letter: moves[letter] for letter in letters}

    @classmethod
    def of(cls, reader):
        """The group of a reader, which must be turning."""
        merge = first_merge(reader)
        if merge is not None:
            raise NotTurning(merge[0])
        return cls(reader.letters, least_reader(reader).moves)

    @property
    def letters(self):
        """The letters."""
        return self._letters

    @property
    def moves(self):
        """The dict from the letters to their turns."""
        return dict(self._moves)

    def turn(self, word):
        """The turn of a word."""
        check_word(word)
        if word.letters != self._letters:
            raise InvalidOperation("the word has other letters")
        turn = still_turn(len(self))
        for letter, exponent in word.runs:
            turn = joint_of(turn, raised_turn(self._moves[letter], exponent))
        return turn

    def order(self, word):
        """The least number, at least 1, of times a word after which all points are led back."""
        return order_of(self.turn(word))

    def all_turns(self):
        """The ascending tuple of the turns of the group."""
        return tuple(sorted(self.turn_texts()))

    def text_for(self, value):
        """The first text with a turn, or `None` if the value is no turn of the group."""
        texts = self.turn_texts()
        return texts.get(value) if is_turn_of(len(self), value) else None

    def turn_texts(self):
        """The dict from the turns of the group to the first texts with them, in the order of these."""
        texts = first_turn_texts(self._moves, MAX_TURNS)
        check_most(len(texts), MAX_TURNS)
        return texts

    def __contains__(self, value):
        texts = self.turn_texts()
        return is_turn_of(len(self), value) and value in texts

    def __len__(self):
        return len(self._moves[self._letters[0]])

    def __eq__(self, other):
        return isinstance(other, Group) and self._letters == other._letters and self._moves == other._moves

    def __str__(self):
        return f"group of {len(self)} points over {self._letters}"


def joint(one, other):
    """The turn that leads by the first one and then by the second one."""
    check_turn(one)
    check_turn(other)
    if len(one) != len(other):
        raise InvalidOperation("the turns have not as many points")
    return joint_of(one, other)


def undone_turn(turn):
    """The turn that leads back."""
    check_turn(turn)
    return undone_of(turn)


def turn_order(turn):
    """The least number, at least 1, of times after which a turn leads all points back."""
    check_turn(turn)
    return order_of(turn)


def check_turn(value):
    """Raise an error unless the value is a turn of one to sixty points."""
    if not is_turn(value):
        raise InvalidOperation("a turn is a tuple in which each of one to sixty points stands once")


def spanned(points, turns):
    """The ascending tuple of all turns that are made of those of a tuple, and of their undone ones."""
    check_between(points, 1, MAX_POINTS)
    if not isinstance(turns, tuple) or not all([is_turn_of(points, turn) for turn in turns]):
        raise InvalidOperation("the turns are a tuple of turns of so many points")
    span = TurnSpan(points, MAX_TURNS)
    for turn in turns:
        span.put(turn)
    return span.turns()
