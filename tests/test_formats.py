"""[22.1], [22.2] and stage 22: texts of values."""

import itertools
import random

from tests.helpers import MOST, Case, Slot, every_kind, wrong_ones
from tests.test_programs import FAR, PROGRAM_SLOT, SUM_SLOT, some_programs
from tests.test_readers import some_reader
from tests.test_least import READER_SLOT
from tests.test_sums import some_weights
from tests.test_tables import WORD_SLOT, some_table, some_word
from tests.test_tallies import TALLY_SLOT, some_tally
from whatcounts.errors import InvalidOperation, InvalidTable, ParseError
from whatcounts.far.programs import Program
from whatcounts.reader.readers import Reader
from whatcounts.sums.sums import Sum
from whatcounts.table.tables import Table
from whatcounts.tally.tallies import Tally
from whatcounts.text.formats import read_program, read_reader, read_sum, read_table, read_tally, read_value, read_word, write_program
from whatcounts.text.formats import write_reader, write_sum, write_table, write_tally, write_value, write_word
from whatcounts.word.words import Word

PRIMES = (None, 2, 3, 5, 7)
READERS = {"word": read_word, "sum": read_sum, "tally": read_tally, "reader": read_reader, "table": read_table, "program": read_program}
WRITERS = {"word": write_word, "sum": write_sum, "tally": write_tally, "reader": write_reader, "table": write_table, "program": write_program}
# for each kind the heads, the forms of the lines behind them, and the last line
FORMS = {
    "word": (["letters w"], ["run w i"], None),
    "sum": (["letters w", "prime w"], ["weight i", "weight i w"], None),
    "tally": (["letters w", "prime w", "first *"], ["row w *"], "last"),
    "reader": (["letters w"], ["moves w *"], "yes"),
    "table": (["letters w", "prime w", "depth i"], ["at w i"], None),
    "program": (["letters w"], ["text", "text w", "join i i", "power i i"], None),
}


def samples(kind):
    for letters, prime in itertools.product(("a", "ab", "bxz"), PRIMES):
        if kind == "word":
            for runs in (0, 1, 2, 5):
                yield some_word(letters, runs, runs, 10 ** 30)
        if kind == "sum":
            for many in (0, 1, 6):
                yield Sum(letters, some_weights(letters, many, 4, many), prime=prime)
            yield Sum(letters, {"": MOST, letters[0]: -MOST}, prime=prime)
        if kind == "tally":
            yield Tally(letters, (), {x: () for x in letters}, (), prime=prime)
            for width in (1, 3):
                yield some_tally(letters, width, width, prime)
            yield Tally(letters, (MOST,), {x: ((-MOST,),) for x in letters}, (0,), prime=prime)
        if kind == "reader":
            for many in (1, 2, 9, 60):
                yield some_reader(letters, many, many)
        if kind == "table":
            for depth in (1, 2, 3):
                yield some_table(letters, depth, depth, prime)
                yield Table.unit(letters, depth, prime=prime)
    if kind == "program":
        yield from [program for program, _ in some_programs()]
        yield FAR
        yield Program("a", (("text", ""), ("power", 0, 10 ** 100)))


def is_told_integer(word):
    digits = word[1:] if word.startswith("-") else word
    if digits == "" or any(sign not in "0123456789" for sign in digits) or len(digits) > 200:
        return False
    return word == "0" or not digits.startswith("0")


def fits(line, form):
    words, kinds = line.split(" "), form.split(" ")
    if "" in words or words[0] != kinds[0]:
        return False
    if kinds[-1] == "*":
        many = len(kinds) - 1
        return len(words) >= many and all(map(is_told_integer, words[many:]))
    return len(words) == len(kinds) and all(kind == "w" or is_told_integer(word) for word, kind in zip(words[1:], kinds[1:]))


def told_error(kind, text):
    """The index of the first line that has not its form, or the number of lines, if nothing has this text."""
    heads, bodies, last = FORMS[kind]
    lines = text.split("\n")
    ended = False
    for at, line in enumerate(lines):
        if at < len(heads):
            right = fits(line, heads[at])
        elif last is None:
            right = any(fits(line, body) for body in bodies)
        elif ended:
            right = False
        elif line.split(" ")[0] == last:
            ended, right = True, fits(line, last + " *")
        else:
            right = any(fits(line, body) for body in bodies)
        if not right:
            return at
    return len(lines)


class WrittenTest(Case):
    def test_there_and_back(self):
        for kind in WRITERS:
            for value in samples(kind):
                text = WRITERS[kind](value)
                self.assertTrue(READERS[kind](text) == value)
                self.assertEqual(WRITERS[kind](READERS[kind](text)), text)
                self.assertFalse(text.endswith("\n") or " \n" in text or "  " in text or "\n\n" in text or text.endswith(" "))

    def test_texts(self):
        self.assertEqual(write_word(Word("ab", (("a", 10 ** 30), ("b", -2), ("a", 1)))), f"letters ab\nrun a {10 ** 30}\nrun b -2\nrun a 1")
        self.assertEqual(write_word(Word("xyz", ())), "letters xyz")
        self.assertEqual(write_sum(Sum("ab", {"ba": -3, "b": 7, "": 2})), "letters ab\nprime none\nweight 2\nweight 7 b\nweight -3 ba")
        self.assertEqual(write_sum(Sum("ab", {}, prime=5)), "letters ab\nprime 5")
        self.assertEqual(write_tally(Tally("ab", (1, -2), {"a": ((3, 4), (5, 6)), "b": ((7, 8), (9, 0))}, (-1, 0))),
                         "letters ab\nprime none\nfirst 1 -2\nrow a 3 4\nrow a 5 6\nrow b 7 8\nrow b 9 0\nlast -1 0")
        self.assertEqual(write_tally(Tally("ab", (), {"a": (), "b": ()}, (), prime=7)), "letters ab\nprime 7\nfirst\nlast")
        self.assertEqual(write_reader(Reader("ab", {"b": (0, 0), "a": (1, 1)}, ())), "letters ab\nmoves a 1 1\nmoves b 0 0\nyes")
        self.assertEqual(write_table(Table("ab", 2, (1, 0, 0, -4, 0, 6))), "letters ab\nprime none\ndepth 2\nat a 1\nat ab -4\nat bb 6")
        self.assertEqual(write_table(Table.unit("a", 5, prime=2)), "letters a\nprime 2\ndepth 5")
        self.assertEqual(write_program(Program("ab", (("text", ""), ("text", "ab"), ("join", 1, 0), ("power", 2, 30)))),
                         "letters ab\ntext\ntext ab\njoin 1 0\npower 2 30")

    def test_too_many_digits(self):
        long = [(write_word, Word("a", (("a", MOST), ("a", 1)))), (write_word, Word("a", (("a", -MOST),)).power(2)),
                (write_sum, Sum("a", {"a": MOST}).times(2)), (write_sum, Sum("a", {"": -MOST, "a": 1}) - Sum("a", {"": 1})),
                (write_tally, Tally("a", (MOST,), {"a": ((1,),)}, (1,)).times(10)), (write_tally, Tally("a", (1,), {"a": ((MOST,),)}, (1,)).behind("aa")),
                (write_table, Table("a", 1, (MOST,)).power(2)), (write_table, ~Table("a", 2, (-10 ** 100, 0)))]
        for call, value in long:
            self.raised(InvalidOperation, call, value)
        tally = Tally("a", (MOST, 1), {"a": ((1, 0), (0, 1))}, (1, 1))
        self.raised(InvalidOperation, write_tally, tally * tally)
        # as many digits as are told
        for number in (MOST, -MOST, 10 ** 199):
            self.assertTrue(read_word(write_word(Word("a", (("a", number),)))) == Word("a", (("a", number),)))
            self.assertEqual(read_value(write_value((number,))), (number,))

    def test_errors(self):
        table = Slot(Table.unit("ab", 2), wrong_ones(lambda value: isinstance(value, Table)), InvalidTable)
        for call, slot in ((write_word, WORD_SLOT), (write_sum, SUM_SLOT), (write_tally, TALLY_SLOT), (write_reader, READER_SLOT),
                           (write_table, table), (write_program, PROGRAM_SLOT)):
            self.check_slots(call, [slot])
        for call in (*READERS.values(), read_value):
            for value in every_kind():
                if not isinstance(value, str):
                    self.raised(InvalidOperation, call, value)


class ReadTest(Case):
    def check_error(self, kind, text):
        index = self.raised(ParseError, READERS[kind], text).index
        self.assertEqual(index, told_error(kind, text), repr(text)[:200])

    def check_text(self, kind, text):
        """Either a value has just this text, or the error tells the line by the rule."""
        try:
            value = READERS[kind](text)
        except ParseError as error:
            self.assertEqual(error.index, told_error(kind, text), repr(text)[:200])
        else:
            self.assertEqual(WRITERS[kind](value), text)

    def changed(self, text, source):
        """The text with one line, one word or one sign changed, left out or twice."""
        lines = text.split("\n")
        at = source.randrange(len(lines))
        words = lines[at].split(" ")
        place = source.randrange(len(words))
        sign = source.randrange(len(text) + 1)
        some = source.choice(["a", "b", "c", "none", "0", "1", "-1", "2", "7", "-0", "01", "+1", "1_0", "ab", "=", "", "x y", "last", "yes", "run", "\t", "\r"])
        yield "\n".join(lines[:at] + lines[at + 1:])
        yield "\n".join(lines[:at] + [lines[at]] + lines[at:])
        yield "\n".join(lines[:at] + [some] + lines[at:])
        other = source.randrange(len(lines))
        yield "\n".join([lines[other] if each == at else lines[at] if each == other else line for each, line in enumerate(lines)])
        for row in (words[:place] + words[place + 1:], words[:place] + [words[place]] + words[place:], words[:place] + [some] + words[place + 1:],
                    words[:place] + [some] + words[place:], words + [some]):
            yield "\n".join(lines[:at] + [" ".join(row)] + lines[at + 1:])
        yield text[:sign] + text[sign + 1:]
        yield text[:sign] + source.choice(["a", "1", " ", "\n", "-", "0", "_", "+", "\t", "\r", "B", "."]) + text[sign:]
        yield text + some
        yield text + "\n" + some
        yield "\n".join(lines[:at])

    def test_changed_texts(self):
        source = random.Random(11)
        for kind in WRITERS:
            values = list(samples(kind))
            for value in values:
                text = WRITERS[kind](value)
                if len(text) < 600:
                    for _ in range(4):
                        for other in self.changed(text, source):
                            self.check_text(kind, other)
                            for more in itertools.islice(self.changed(other, source), 4):
                                self.check_text(kind, more)

    def test_other_kinds(self):
        for kind, other in itertools.product(WRITERS, WRITERS):
            if kind != other:
                for value in itertools.islice(samples(other), 0, 30, 5):
                    self.check_text(kind, WRITERS[other](value))

    def test_edges(self):
        for kind in WRITERS:
            text = WRITERS[kind](next(iter(samples(kind))))
            for other in ("", "\n", " ", text + "\n", "\n" + text, text + " ", " " + text, text.replace("\n", "\r\n", 1), text.replace("\n", "\n\n", 1),
                          text.replace(" ", "  ", 1), text.replace(" ", "\t", 1), "letters", "letters ", "letters ba", "letters ab c", "letters  ab",
                          "Letters ab", "letters abcd\nprime none", "letters ab\nprime 4", "letters ab\nprime None", "letters ab\nprime", "letters AB"):
                self.check_text(kind, other)
            self.assertEqual(self.raised(ParseError, READERS[kind], "").index, 0)

    def test_integers(self):
        words = ["0", "-0", "00", "01", "-01", "+1", "1_0", "--1", "-", "1.0", "1e3", "0x1", " 1", "\u0661", "\u00b2", "1\r", "1\t", "\uff11", "none", "one",
                 "1" * 200, "-" + "1" * 200, "1" * 201, "-" + "1" * 201, "0" * 200 + "1", "1" * 5000]
        for word in words:
            self.check_text("word", f"letters ab\nrun a {word}\nrun b 1")
            self.check_text("sum", f"letters ab\nprime none\nweight {word}\nweight 1 b")
            self.check_text("sum", f"letters ab\nprime 2\nweight {word} a\nweight 1 b")
            self.check_text("tally", f"letters a\nprime none\nfirst {word}\nrow a 1\nlast 1")
            self.check_text("tally", f"letters a\nprime none\nfirst 1\nrow a {word}\nlast 1")
            self.check_text("tally", f"letters a\nprime none\nfirst 1\nrow a 1\nlast {word}")
            self.check_text("reader", f"letters a\nmoves a 0 {word}\nyes 0")
            self.check_text("reader", f"letters a\nmoves a 0\nyes {word}")
            self.check_text("table", f"letters a\nprime none\ndepth {word}")
            self.check_text("table", f"letters a\nprime none\ndepth 1\nat a {word}")
            self.check_text("program", f"letters a\ntext a\njoin {word} 0")
            self.check_text("program", f"letters a\ntext a\npower 0 {word}")
            right = is_told_integer(word)
            if right:
                self.assertEqual(read_value(word), int(word))
            else:
                self.raised(ParseError, read_value, word) if word != "none" else self.assertIsNone(read_value(word))

    def test_indices(self):
        cases = [("sum", "letters ab\nprime 2\nweight 2 ab", 3), ("reader", "letters a\nyes 0\nmoves a 0", 2), ("sum", "letters ab", 1),
                 ("tally", "letters a\nprime 2\nfirst\nlast\nlast", 4), ("tally", "letters a\nprime 2\nfirst\nlast a", 3), ("tally", "letters a\nprime 2\nfirst", 3),
                 ("tally", "letters a\nprime 2\nlast", 2), ("tally", "letters a\nprime 2\nfirst\nlast\nrow a", 4), ("tally", "letters a\nprime 2\nfirst\nlasts", 3),
                 ("reader", "letters a\nmoves a 0", 2), ("reader", "letters a\nyes", 2), ("reader", "letters a\nmoves a 1\nyes", 3),
                 ("reader", "letters ab\nmoves b 0\nmoves a 0\nyes", 4), ("reader", "letters a\nmoves a 0\nmoves a 0\nyes", 4),
                 ("reader", "letters a\nmoves a 0 0\nyes 1 0", 3), ("reader", "letters a\nmoves a\nyes", 3), ("table", "letters a\nprime none\ndepth 6", 3),
                 ("table", "letters a\nprime none\ndepth 1\nat a 0", 4), ("table", "letters a\nprime none\ndepth 1\nat aa 1", 4),
                 ("table", "letters a\nprime 3\ndepth 1\nat a 3", 4), ("table", "letters a\nprime 3\ndepth 1\nat a -1", 4),
                 ("table", "letters ab\nprime 3\ndepth 1\nat b 1\nat a 1", 5), ("table", "letters ab\nprime 3\ndepth 1\nat a 1\nat a 1", 5),
                 ("table", "letters a\nprime none\ndepth 1\nat 1", 3), ("word", "letters ab\nrun a 1\nrun a 1", 3), ("word", "letters ab\nrun a 0", 2),
                 ("word", "letters ab\nrun c 1", 2), ("word", "letters ab\nrun ab 1", 2), ("word", "letters ab\nrun a", 1), ("word", "letters ab\nrun 1", 1),
                 ("word", "\n".join(["letters ab"] + ["run a 1", "run b 1"] * 101), 203), ("word", "letters\nrun", 0), ("word", "run a 1\nletters ab", 0),
                 ("sum", "letters ab\nprime none\nweight 0", 3), ("sum", "letters ab\nprime none\nweight 1 b\nweight 1 a", 4),
                 ("sum", "letters ab\nprime none\nweight 1 b\nweight 1 b", 4), ("sum", "letters ab\nprime none\nweight 1 " + "a" * 13, 3),
                 ("sum", "letters ab\nweight 1 a", 1), ("sum", "letters ab\nprime x\nweight 1", 3), ("sum", "letters ab\nprime x\nweight a", 2),
                 ("program", "letters a", 1), ("program", "letters a\ntext\n" + "\n".join(["text"] * 40), 42), ("program", "letters a\njoin 0 0", 2),
                 ("program", "letters a\ntext a\npower 0 -1", 3), ("program", "letters a\ntext a\npower 0", 2), ("program", "letters a\ntext a a", 1),
                 ("program", "letters a\ntext b", 2), ("program", "letters a\ntext a\n" + "\n".join(f"power {at} {10 ** 100}" for at in range(4)), 6)]
        for kind, text, index in cases:
            self.assertEqual(self.raised(ParseError, READERS[kind], text).index, index, text)
            self.check_error(kind, text)

    def test_what_comes_to_too_many_digits(self):
        """Runs with one letter are put together, which can make their exponent too long to be written."""
        for signs in (("", ""), ("-", "-")):
            lines = ["letters ab"] + [f"run a {sign}{MOST}" for sign in signs]
            self.assertEqual(self.raised(ParseError, read_word, "\n".join(lines)).index, 3)
        for lines in (["run a 1", f"run a {MOST}"], [f"run a {MOST}"] * 3, [f"run a {MOST}", f"run a -{MOST}"]):
            self.check_text("word", "\n".join(["letters ab"] + lines))
        for body in (f"weight {MOST} a\nweight {MOST} a", f"weight {MOST}\nweight {MOST} a"):
            self.check_text("sum", f"letters ab\nprime none\n{body}")
        self.check_text("table", f"letters a\nprime none\ndepth 1\nat a {MOST}\nat a {MOST}")

    def test_long_texts(self):
        long = "letters ab\n" + "\n".join(["run a 1"] * 20000)
        self.assertEqual(self.raised(ParseError, read_word, long).index, 20001)
        self.assertEqual(self.raised(ParseError, read_word, long + "\nrun").index, 20001)
        self.assertEqual(self.raised(ParseError, read_reader, "letters a\n" + "moves a" + " 0" * 30000 + "\nyes").index, 3)
        self.assertEqual(self.raised(ParseError, read_tally, "letters " + "a" * 50000 + "\nprime none\nfirst\nlast").index, 4)
        wide = some_tally("abc", 60, 1)
        self.assertTrue(read_tally(write_tally(wide)) == wide)
        self.assertEqual(read_value("( " + "=a " * 30000 + ")"), ("a",) * 30000)
        deep = Table("abc", 5, tuple(range(363)))
        self.assertTrue(read_table(write_table(deep)) == deep)
        text = "ab" * 2000
        self.assertEqual(read_program(f"letters ab\ntext {text}").text(), text)
        self.raised(ParseError, read_program, f"letters ab\ntext {text}a")


def told_value(value):
    """The text of a value."""
    if isinstance(value, tuple):
        return " ".join(["("] + [told_value(part) for part in value] + [")"])
    return "none" if value is None else "=" + value if isinstance(value, str) else str(value)


def nested(levels, inner=()):
    value = inner
    for _ in range(levels - 1):
        value = (value,)
    return value


def drawn_value(source, deep=0):
    kind = source.randrange(5 if deep < 8 else 4)
    if kind < 4:
        return [None, source.choice([0, -1, 7, MOST, -MOST, 10 ** 30]), source.choice(["", "a", "Z", "abAB", "none"]), "x" * source.randrange(30)][kind]
    return tuple(drawn_value(source, deep + 1) for _ in range(source.randrange(4)))


class ValuesTest(Case):
    def test_there_and_back(self):
        source = random.Random(5)
        values = [drawn_value(source) for _ in range(400)] + [nested(8), nested(8, ("a", None)), nested(1), "q" * 4000, ("sum", (("", 1), ("ab", -2)))]
        for value in values:
            text = told_value(value)
            self.assertEqual(write_value(value), text)
            self.assertEqual(read_value(text), value)

    def test_values_without_a_text(self):
        for value in (True, False, (True,), [], ["a"], {}, ([],), "a b", "a\n", "1", "-", "=", "a1", "\u00e9", ("a", "a.b"), MOST + 1, -MOST - 1, (10 ** 299,), nested(9),
                      nested(8, ((),)), (1, (2, (True,))), 1.5, {"a": 1}, Word("a", ()), (FAR,)):
            self.raised(InvalidOperation, write_value, value)
        for value in every_kind():
            try:
                text = write_value(value)
            except InvalidOperation:
                self.assertFalse(value is None or value == () or isinstance(value, str) and (value.isalpha() and value.isascii() or value == ""))
            else:
                self.assertEqual((told_value(value), read_value(text)), (text, value))

    def test_texts_of_no_value(self):
        for text in ("", " ", "(", ")", "()", "( ", "( ) )", "( ( )", ") (", "a", "=a b", "= a", "=1", "=a=", "( =a, =b )", "None", "none none", "1 2", "( 1  2 )", " 1",
                     "1 ", "( )\t", "\t", "=a\t", "=a\r", "True", "-", "+1", "01", "1" * 201, "=\u00e9", "( none", "(none)", "()", "[ ]", "=a.b", "( " * 9 + ") " * 8 + ")",
                     " ".join(["("] * 9 + [")"] * 9), " ".join(["("] * 100000)):
            self.assertEqual(self.raised(ParseError, read_value, text).index, 0, text[:50])
            self.assertEqual(self.raised(ParseError, read_value, text + "\n1").index, 0)
        for text in ("1", "none", "=", "=aB", "( )", "( =a ( none -3 ) )", " ".join(["("] * 8 + [")"] * 8)):
            read_value(text)
            for more in ("", "1", "\n", "what", "( )"):
                self.assertEqual(self.raised(ParseError, read_value, text + "\n" + more).index, 1)
