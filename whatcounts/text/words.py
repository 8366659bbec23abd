"""Words and lines of texts of values."""

from whatcounts.base.names import ALPHABET, MAX_DIGITS, has_only, is_integer
from whatcounts.errors import InvalidOperation, ParseError

DIGITS = "0123456789"
MAX_NESTED = 8


def is_written_integer(word):
    """Whether a word is an integer, written as it is told."""
    digits = word[1:] if word[:1] == "-" else word
    if digits == "" or not has_only(digits, DIGITS, MAX_DIGITS):
        return False
    return digits[0] != "0" or word == "0"


def integer_word(number):
    """The word for an integer."""
    if not is_integer(number):
        raise InvalidOperation("the integer has more than two hundred digits")
    return str(number)


def integer_words(numbers):
    """The list of the words for some integers."""
    return [integer_word(number) for number in numbers]


def integers_of(words):
    """The tuple of the integers that are written in some words."""
    return tuple([int(word) for word in words])


def text_of_lines(lines):
    """The text of some lines, each one told by its words."""
    return "\n".join([" ".join(words) for words in lines])


class Form:
    """The lines of a kind of texts: those at the beginning, those that can follow, and the last one, if there is one.

    A line is told by its first word and by what stands behind it: `word`, `integer`, `perhaps` a word, or `integers`.
    """

    def __init__(self, heads, bodies, end):
        self.heads = heads
        self.bodies = bodies
        self.end = end

    def lines_of(self, text):
        """The list of the words of each line of a text; an error at the first line that has not its form."""
        if not isinstance(text, str):
            raise InvalidOperation("a text is a string")
        lines = [line.split(" ") for line in text.split("\n")]
        ended = False
        for at, words in enumerate(lines):
            if at < len(self.heads):
                right = do_fit(words, self.heads[at])
            elif not ended and self.end is not None and words[0] == self.end[0]:
                ended = True
                right = do_fit(words, self.end)
            else:
                right = not ended and any([do_fit(words, body) for body in self.bodies])
            if not right:
                raise ParseError(at)
        if len(lines) < len(self.heads) or (self.end is not None and not ended):
            raise ParseError(len(lines))
        return lines


def do_fit(words, form):
    """Whether words have a form."""
    if words[0] != form[0] or "" in words:
        return False
    left = words[1:]
    for kind in form[1:]:
        if kind == "integers":
            return all([is_written_integer(word) for word in left])
        if kind == "perhaps":
            return len(left) <= 1
        if not left or (kind == "integer" and not is_written_integer(left[0])):
            return False
        left = left[1:]
    return not left


def value_words(value, deep):
    """The list of the words of a value within so many tuples."""
    if value is None:
        return ["none"]
    if isinstance(value, str) and value.strip(ALPHABET + ALPHABET.upper()) == "":
        return ["=" + value]
    if isinstance(value, tuple) and deep < MAX_NESTED:
        words = ["("]
        for part in value:
            words.extend(value_words(part, deep + 1))
        return words + [")"]
    if is_integer(value):
        return [str(value)]
    raise InvalidOperation("the value has no text")


def values_of(words):
    """The list of the only value with these words; empty if they are not those of one value."""
    # the values so far, outside of all tuples and in each one that is open
    rows = [[]]
    for word in words:
        if len(rows) == 1 and rows[0]:
            return []
        if word == "(":
            rows.append([])
        elif word == ")" and len(rows) > 1:
            inner = rows.pop()
            rows[-1].append(tuple(inner))
        elif is_plain_word(word):
            rows[-1].append(plain_value(word))
        else:
            return []
        if len(rows) > MAX_NESTED + 1:
            return []
    return rows[0] if len(rows) == 1 else []


def is_plain_word(word):
    """Whether a word tells a string, an integer or `None`."""
    if word[:1] == "=":
        return word[1:].strip(ALPHABET + ALPHABET.upper()) == ""
    return word == "none" or is_written_integer(word)


def plain_value(word):
    """The string, the integer or `None` that a word tells."""
    if word == "none":
        return None
    return word[1:] if word[:1] == "=" else int(word)
