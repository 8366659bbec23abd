"""The errors of the package."""


class CountError(ValueError):
    """An argument is not of the kind that is wanted."""


class InvalidName(CountError):
    """No name."""


class InvalidLetters(CountError):
    """No letters."""


class InvalidText(CountError):
    """No text, or no signed text, of the letters."""


class InvalidPattern(CountError):
    """No pattern of the letters."""


class InvalidWord(CountError):
    """No word."""


class InvalidSum(CountError):
    """No sum."""


class InvalidTally(CountError):
    """No tally."""


class InvalidReader(CountError):
    """No reader."""


class InvalidGroup(CountError):
    """No group."""


class InvalidTable(CountError):
    """No table."""


class InvalidProgram(CountError):
    """No program."""


class InvalidOperation(CountError):
    """Something that cannot be done, or not with these values."""


class ParseError(CountError):
    """A line of a text that has not the form of its place."""

    def __init__(self, index):
        super().__init__(f"line {index} has not the form of its place")
        self.index = index


class InvalidNumber(IndexError):
    """A number that is none, or is not in its range."""

    def __init__(self, value):
        super().__init__("this number cannot be used")
        self.value = value

    def __str__(self):
        return repr(self.value)


class UnknownName(KeyError):
    """A name that tells nothing."""

    def __init__(self, name):
        super().__init__("this name is not known")
        self.name = name

    def __str__(self):
        return repr(self.name)


class TooMany(OverflowError):
    """More than a limit allows."""

    def __init__(self, limit):
        super().__init__(f"the limit is {limit}")
        self.limit = limit


class NothingToUndo(LookupError):
    """Fewer calls than should be undone, or done again."""

    def __init__(self, many):
        super().__init__(f"there are fewer than {many} calls")
        self.many = many


class NotTrue(ArithmeticError):
    """A table that does not follow the rule for two patterns."""

    def __init__(self, one, other):
        super().__init__(f"the table has a fault at {one} and {other}")
        self.one = one
        self.other = other


class NotTurning(RuntimeError):
    """A reader that is not turning, because of a letter."""

    def __init__(self, letter):
        super().__init__(f"the letter {letter} leads two states to one")
        self.letter = letter
