"""Texts of values: words, sums, tallies, readers, tables, programs, and plain values."""

from whatcounts.base.names import check_letters
from whatcounts.errors import CountError, InvalidNumber, InvalidOperation, ParseError, TooMany
from whatcounts.far.programs import Program, check_program
from whatcounts.pattern.leading import patterns_of
from whatcounts.reader.readers import Reader, check_reader
from whatcounts.sums.sums import Sum, check_sum
from whatcounts.table.tables import Table, check_table
from whatcounts.tally.tallies import Tally, check_tally
from whatcounts.text.words import Form, integer_word, integer_words, integers_of, is_written_integer, text_of_lines
from whatcounts.text.words import value_words, values_of
from whatcounts.word.words import Word, check_word

LETTERS = ("letters", "word")
PRIME = ("prime", "word")


def write_word(word):
    """The text of a word."""
    check_word(word)
    runs = [["run", letter, integer_word(exponent)] for letter, exponent in word.runs]
    return text_of_lines([["letters", word.letters]] + runs)


def write_sum(total):
    """The text of a sum."""
    check_sum(total)
    weights = [["weight", integer_word(number)] + word_or_none(pattern) for pattern, number in total.weights.items()]
    return text_of_lines(head_lines(total) + weights)


def write_tally(tally):
    """The text of a tally."""
    check_tally(tally)
    rows = [["row", letter] + integer_words(row) for letter, square in tally.moves.items() for row in square]
    first = ["first"] + integer_words(tally.first)
    return text_of_lines(head_lines(tally) + [first] + rows + [["last"] + integer_words(tally.last)])


def write_reader(reader):
    """The text of a reader."""
    check_reader(reader)
    moves = [["moves", letter] + integer_words(row) for letter, row in reader.moves.items()]
    return text_of_lines([["letters", reader.letters]] + moves + [["yes"] + integer_words(reader.yes)])


def write_table(table):
    """The text of a table."""
    check_table(table)
    entries = [
        ["at", pattern, integer_word(entry)]
        for pattern, entry in zip(patterns_of(table.letters, table.depth), table.entries) if entry != 0
    ]
    return text_of_lines(head_lines(table) + [["depth", str(table.depth)]] + entries)


def write_program(program):
    """The text of a program."""
    check_program(program)
    steps = [
        ["text"] + word_or_none(step[1]) if step[0] == "text" else [step[0]] + integer_words(step[1:])
        for step in program.steps
    ]
    return text_of_lines([["letters", program.letters]] + steps)


def write_value(value):
    """The text of a value, one line."""
    return text_of_lines([value_words(value, 0)])


def head_lines(some):
    """The first lines of the text of an object with a prime."""
    return [["letters", some.letters], ["prime", "none" if some.prime is None else str(some.prime)]]


def word_or_none(text):
    """The list of a word, which is left out if it is empty."""
    return [] if text == "" else [text]


def read_word(text):
    """The word with just this text."""
    lines = Form((LETTERS,), (("run", "word", "integer"),), None).lines_of(text)
    return read_by(text, lines, word_of_lines, write_word)


def read_sum(text):
    """The sum with just this text."""
    lines = Form((LETTERS, PRIME), (("weight", "integer", "perhaps"),), None).lines_of(text)
    return read_by(text, lines, sum_of_lines, write_sum)


def read_tally(text):
    """The tally with just this text."""
    heads = (LETTERS, PRIME, ("first", "integers"))
    lines = Form(heads, (("row", "word", "integers"),), ("last", "integers")).lines_of(text)
    return read_by(text, lines, tally_of_lines, write_tally)


def read_reader(text):
    """The reader with just this text."""
    lines = Form((LETTERS,), (("moves", "word", "integers"),), ("yes", "integers")).lines_of(text)
    return read_by(text, lines, reader_of_lines, write_reader)


def read_table(text):
    """The table with just this text."""
    lines = Form((LETTERS, PRIME, ("depth", "integer")), (("at", "word", "integer"),), None).lines_of(text)
    return read_by(text, lines, table_of_lines, write_table)


def read_program(text):
    """The program with just this text."""
    bodies = (("text", "perhaps"), ("join", "integer", "integer"), ("power", "integer", "integer"))
    lines = Form((LETTERS,), bodies, None).lines_of(text)
    return read_by(text, lines, program_of_lines, write_program)


def read_value(text):
    """The value with just this text."""
    if not isinstance(text, str):
        raise InvalidOperation("a text is a string")
    lines = text.split("\n")
    found = values_of(lines[0].split(" "))
    if not found:
        raise ParseError(0)
    if len(lines) > 1:
        raise ParseError(1)
    return found[0]


def read_by(text, lines, make, write):
    """What is made of the lines of a text, if it has just this text."""
    try:
        made = make(lines)
        written = write(made)
    except (CountError, InvalidNumber, TooMany):
        raise ParseError(len(lines)) from None
    if written != text:
        raise ParseError(len(lines))
    return made


def word_of_lines(lines):
    """The word that lines tell."""
    return Word(lines[0][1], tuple([(words[1], int(words[2])) for words in lines[1:]]))


def sum_of_lines(lines):
    """The sum that lines tell."""
    weights = {"".join(words[2:]): int(words[1]) for words in lines[2:]}
    return Sum(lines[0][1], weights, prime=told_prime(lines[1][1]))


def tally_of_lines(lines):
    """The tally that lines tell."""
    letters = lines[0][1]
    check_letters(letters)
    moves = {
        letter: tuple([integers_of(words[2:]) for words in lines[3:-1] if words[1] == letter])
        for letter in letters
    }
    first, last = integers_of(lines[2][1:]), integers_of(lines[-1][1:])
    return Tally(letters, first, moves, last, prime=told_prime(lines[1][1]))


def reader_of_lines(lines):
    """The reader that lines tell."""
    moves = {words[1]: integers_of(words[2:]) for words in lines[1:-1]}
    return Reader(lines[0][1], moves, integers_of(lines[-1][1:]))


def table_of_lines(lines):
    """The table that lines tell."""
    letters, depth = lines[0][1], int(lines[2][1])
    entries = {words[1]: int(words[2]) for words in lines[3:]}
    told = tuple([entries.get(pattern, 0) for pattern in patterns_of(letters, depth)])
    return Table(letters, depth, told, prime=told_prime(lines[1][1]))


def program_of_lines(lines):
    """The program that lines tell."""
    steps = [
        ("text", "".join(words[1:])) if words[0] == "text" else (words[0],) + integers_of(words[1:])
        for words in lines[1:]
    ]
    return Program(lines[0][1], tuple(steps))


def told_prime(word):
    """What a word tells for a prime: `None`, an integer, or the word itself, which is none."""
    if word == "none":
        return None
    return int(word) if is_written_integer(word) else word
