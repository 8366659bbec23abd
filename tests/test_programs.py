"""[19.1], [19.2] and stage 19: far texts."""

import itertools
import random

from tests.helpers import MOST, Case, Slot, all_texts, every_kind, is_plain_integer, is_some_text, wrong_ones
from tests.test_least import READER_SLOT, some_turning
from tests.test_prime import turning_ones
from tests.test_readers import answer, samples, some_reader, told
from tests.test_sums import count_of, number_at, some_weights
from tests.test_tables import DEPTH_SLOT
from tests.test_tallies import LETTERS_SLOT, PRIME_SLOT, TALLY_SLOT, some_tally
from whatcounts.errors import InvalidLetters, InvalidNumber, InvalidOperation, InvalidPattern, InvalidProgram, InvalidReader
from whatcounts.errors import InvalidSum, InvalidTally, InvalidText
from whatcounts.far import programs
from whatcounts.far.programs import Program, far_answer, far_count, far_state, far_sum, far_table, far_tally, newton, period
from whatcounts.far.programs import round_of
from whatcounts.reader.least import is_turning
from whatcounts.reader.readers import Reader
from whatcounts.sums.sums import Sum
from whatcounts.table.tables import Table
from whatcounts.tally.squares import product_square
from whatcounts.tally.tallies import Tally, tally_of
from whatcounts.word.words import Word

PRIMES = (None, 2, 3, 5, 7)
FAR = Program("ab", (("text", "ab"), ("power", 0, 10 ** 30), ("text", "b"), ("join", 1, 2)))
PROGRAM_SLOT = Slot(FAR, wrong_ones(lambda value: isinstance(value, Program)), InvalidProgram)
SUM_SLOT = Slot(Sum("ab", {"ab": 1}), wrong_ones(lambda value: isinstance(value, Sum)), InvalidSum)
TEXT_SLOT = Slot("ab", wrong_ones(is_some_text("ab", 4000)) + ["abc", "ab" * 2000 + "a"], InvalidText)
HUNDRED = 10 ** 100
# 10 ** 400 letters: the fourth power of 10 ** 100
FULL = (("text", "a"), ("power", 0, HUNDRED), ("power", 1, HUNDRED), ("power", 2, HUNDRED), ("power", 3, HUNDRED))


def some_program(letters, many, seed, longest=3, most=3):
    """A program with so many steps, whose text is not too long to be written."""
    source = random.Random(f"{letters} {many} {seed} program")
    steps, texts = [], []
    while len(steps) < many:
        kind = source.choice(["text", "join", "power"]) if steps else "text"
        if kind == "text":
            text = "".join(source.choice(letters) for _ in range(source.randrange(longest + 1)))
            step = ("text", text)
        elif kind == "join":
            step = ("join", source.randrange(len(steps)), source.randrange(len(steps)))
            text = texts[step[1]] + texts[step[2]]
        else:
            step = ("power", source.randrange(len(steps)), source.randrange(most + 1))
            text = texts[step[1]] * step[2]
        if len(text) <= 300:
            steps.append(step)
            texts.append(text)
    return Program(letters, tuple(steps)), texts[-1]


def some_programs():
    for letters, (many, seed) in itertools.product(("a", "ab", "abc"), ((1, 1), (2, 2), (5, 3), (9, 4), (40, 5), (40, 6))):
        yield some_program(letters, many, seed)


class ProgramTest(Case):
    def test_constants(self):
        self.assertEqual((programs.MAX_STEPS, programs.MAX_SIZE), (40, 10 ** 400))

    def test_texts(self):
        for program, text in some_programs():
            self.assertEqual((program.text(), program.size), (text, len(text)))
            self.assertEqual("".join(program[at] for at in range(program.size)), text)
            self.assertEqual(Program(program.letters, program.steps), program)

    def test_properties(self):
        self.assertEqual((FAR.letters, len(FAR), str(FAR)), ("ab", 4, "program of 4 steps over ab"))
        self.assertEqual(FAR.steps, (("text", "ab"), ("power", 0, 10 ** 30), ("text", "b"), ("join", 1, 2)))
        one = Program.of("abc", "cab")
        self.assertEqual((one.steps, one.size, one.text(), len(one), str(one)), ((("text", "cab"),), 3, "cab", 1, "program of 1 steps over abc"))
        self.check_not_iterable(FAR)
        self.check_not_iterable(one)

    def test_equality(self):
        others = [Program("ab", FAR.steps[:3]), Program("abc", FAR.steps), Program("ab", FAR.steps + (("text", ""),)), FAR.power(1)]
        self.check_equality(lambda: Program("ab", tuple(FAR.steps)), others)

    def test_far_letters(self):
        self.assertEqual([FAR[10 ** 30], FAR[0], FAR[1], FAR[2 * 10 ** 30 - 2], FAR[2 * 10 ** 30 - 1], FAR[2 * 10 ** 30]], list("aabab" + "b"))
        two = (FAR + FAR).power(10 ** 60)
        size = 2 * (2 * 10 ** 30 + 1)
        self.assertEqual(two.size, size * 10 ** 60)
        for times in (0, 1, 10 ** 60 - 1):
            for half in (0, size // 2):
                start = times * size + half
                self.assertEqual("".join(two[start + at] for at in range(4)), "abab")
                self.assertEqual("".join(two[start + 2 * 10 ** 30 + at] for at in (-2, -1, 0)), "abb")
        self.assertEqual(two[two.size - 1], "b")
        for value in (two.size, two.size + 1, -1, -two.size):
            self.bad_number(value, two.__getitem__, value)
        full = Program("a", FULL[:4])
        self.assertEqual((full.size, full[MOST]), (10 ** 300, "a"))
        for value in (MOST + 1, 10 ** 299):
            self.bad_number(value, full.__getitem__, value)

    def test_wrong_indices(self):
        for program in (FAR, Program.of("ab", ""), Program.of("ab", "ab")):
            for value in every_kind():
                if not is_plain_integer(value) or not 0 <= value < program.size:
                    self.bad_number(value, program.__getitem__, value)

    def test_one_behind_the_other(self):
        for letters in ("a", "ab", "abc"):
            for seed in range(4):
                (one, text), (two, other) = some_program(letters, 4 + seed, seed), some_program(letters, 9 - seed, seed + 10)
                both = one + two
                self.assertEqual((both.text(), len(both)), (text + other, len(one) + len(two) + 1))
                self.assertEqual(both.steps[:len(one)], one.steps)
                self.assertEqual(both.steps[-1], ("join", len(one) - 1, len(one) + len(two) - 1))
                self.assertEqual([Program(letters, both.steps[:at + 1]).text() for at in range(len(one), len(both) - 1)],
                                 [Program(letters, two.steps[:at + 1]).text() for at in range(len(two))])
                for number in (0, 1, 3):
                    more = one.power(number)
                    self.assertEqual((more.text(), more.steps), (text * number, one.steps + (("power", len(one) - 1, number),)))

    def test_operators(self):
        for value in every_kind():
            if not isinstance(value, Program) or value.letters != "ab":
                self.raised(InvalidOperation, lambda: FAR + value)
        self.raised(InvalidOperation, lambda: FAR + Program.of("abc", "ab"))
        long = Program("ab", (("text", "a"),) * 20)
        self.assertEqual(len(long + Program("ab", (("text", "a"),) * 19)), 40)
        self.too_many(40, lambda: long + long)
        self.too_many(40, lambda: long + Program("ab", long.steps[:19] + (("text", "b"),)))
        full = Program("ab", (("text", "a"),) * 40)
        self.too_many(40, lambda: full + full)
        self.too_many(40, full.power, 2)
        self.too_many(40, full.power, 0)
        self.assertEqual(len(Program("ab", (("text", "a"),) * 39).power(2)), 40)
        for value in wrong_ones(lambda value: is_plain_integer(value) and 0 <= value <= HUNDRED):
            self.bad_number(value, full.power, value)
            self.bad_number(value, FAR.power, value)
        more = HUNDRED + 1
        self.bad_number(more, FAR.power, more)
        self.assertEqual(FAR.power(HUNDRED).size, (2 * 10 ** 30 + 1) * HUNDRED)

    def test_bounds_in_order(self):
        """A wrong operand, then the number of steps, then the number of letters."""
        great = Program("ab", (("text", "a"),) * 37 + tuple(("power", at, HUNDRED) for at in (36, 37, 38)))
        more = HUNDRED + 1
        self.assertEqual((len(great), great.size), (40, 10 ** 300))
        self.too_many(40, great.power, HUNDRED)
        self.too_many(40, lambda: great + great)
        self.bad_number(more, great.power, more)
        less = Program("a", FULL[:4])
        self.too_many(10 ** 400, less.power, HUNDRED)
        self.assertEqual(less.power(HUNDRED - 1).size, 10 ** 400 - 10 ** 300)
        nearly = less.power(HUNDRED - 1)
        self.too_many(10 ** 400, lambda: nearly + less)
        self.assertEqual((nearly + Program("a", FULL[:3])).size, 10 ** 400 - 10 ** 300 + 10 ** 200)

    def test_very_many_letters(self):
        self.too_many(10 ** 400, Program, "a", FULL)
        for more in (("text", "a"), ("power", 4, 0), ("power", 4, 1)):
            self.too_many(10 ** 400, Program, "a", FULL + (more,))
        nines = (("text", "a" * 9), ("power", 0, HUNDRED), ("power", 1, HUNDRED), ("power", 2, HUNDRED))
        self.assertEqual(Program("a", nines + (("power", 3, HUNDRED // 10),)).size, 9 * 10 ** 399)
        self.too_many(10 ** 400, Program, "a", nines + (("power", 3, HUNDRED // 10), ("power", 3, HUNDRED // 10), ("join", 4, 5)))
        # 10 ** 400 - 1 is the product of 10 ** 200 + 1, 10 ** 100 + 1 and 10 ** 100 - 1
        less = [("text", "a"), ("power", 0, HUNDRED), ("join", 1, 0), ("power", 2, HUNDRED - 1), ("power", 3, HUNDRED), ("power", 4, HUNDRED)]
        less += [("join", 5, 3)]
        program = Program("a", tuple(less))
        self.assertEqual(program.size, 10 ** 400 - 1)
        self.too_many(10 ** 400, lambda: program + Program.of("a", "a"))
        self.assertEqual((program + Program.of("a", "")).size, 10 ** 400 - 1)
        self.assertEqual(program.power(0).text(), "")
        self.too_many(10 ** 400, program.power, 2)

    def test_long_texts(self):
        self.assertEqual(Program("ab", (("text", "ab" * 1000), ("power", 0, 2))).text(), "ab" * 2000)
        for steps in ((("text", "ab" * 1000), ("power", 0, 2), ("text", "a"), ("join", 1, 2)), FAR.steps):
            self.too_many(4000, Program("ab", steps).text)
        # what the last step does not lead to does not count
        self.assertEqual(Program("ab", FAR.steps + (("text", "ba"), ("join", 4, 4))).text(), "baba")
        self.assertEqual(FAR.power(0).text(), "")
        empty = Program("a", (("text", ""), ("power", 0, HUNDRED), ("power", 1, HUNDRED), ("join", 1, 2), ("power", 3, HUNDRED)))
        self.assertEqual((empty.text(), empty.size), ("", 0))


class ProgramErrorsTest(Case):
    def test_slots(self):
        wrong = [value for value in every_kind() if not (value == ((),))]
        steps = Slot((("text", "ab"),), wrong, InvalidProgram)
        self.check_slots(Program, [LETTERS_SLOT, steps])
        self.check_slots(Program.of, [LETTERS_SLOT, TEXT_SLOT])

    def test_steps(self):
        text = ("text", "ab")
        wrong = [(), (text,) * 41, [text], (list(text),), (("text",),), (("text", "ab", ""),), (("text", "abc"),), (("text", 1),), (("Text", "ab"),),
                 ("text", "ab"), (("text", "ab" * 2000 + "a"),), (("join", 0, 0),), (("power", 0, 1),), (text, ("join", 0, 1)), (text, ("join", 1, 0)),
                 (text, ("join", -1, 0)), (text, ("join", 0)), (text, ("join", 0, 0, 0)), (text, ("join", False, 0)), (text, ("join", 0, False)),
                 (text, ("power", 1, 1)), (text, ("power", 0, -1)), (text, ("power", 0, HUNDRED + 1)), (text, ("power", 0, True)),
                 (text, ("power", False, 1)), (text, ("power", 0)), (text, ("power", 0, None)), (text, ("power", 0, "1")), (text, ("join", "0", 0)),
                 (text, None), (text, ()), (text, ("text", "ab"), ("join", 0, 2)), (text, ("turn", 0, 0)), (text, ("power", 0, 10 ** 200)),
                 ((("text",), "ab"),), ({"text": "ab"},), (text, ("join", None, 0))]
        for steps in wrong:
            self.raised(InvalidProgram, Program, "ab", steps)
            self.raised(InvalidLetters, Program, "ba", steps)
        for steps in ((text,) * 40, (text, ("join", 0, 0), ("power", 1, HUNDRED), ("power", 0, 0)), (("text", "ab" * 2000),), (("text", ""),)):
            self.assertEqual(Program("ab", steps).steps, steps)
        # a wrong step ahead of, and behind, a text that is too long
        self.raised(InvalidProgram, Program, "a", FULL + (("join", 0, 9),))
        self.raised(InvalidProgram, Program, "a", (("text", "b"),) + FULL[1:])
        for kind in every_kind():
            self.raised(InvalidProgram, Program, "ab", (text, (kind, 0, 0)))
            self.raised(InvalidProgram, Program, "ab", ((kind, "ab"),))
            if not is_some_text("ab", 4000)(kind):
                self.raised(InvalidProgram, Program, "ab", (("text", kind),))
            if not is_plain_integer(kind) or kind != 0:
                self.raised(InvalidProgram, Program, "ab", (text, ("join", kind, 0)))
                self.raised(InvalidProgram, Program, "ab", (text, ("join", 0, kind)))
                self.raised(InvalidProgram, Program, "ab", (text, ("power", kind, 0)))
            if not is_plain_integer(kind) or not 0 <= kind <= HUNDRED:
                self.raised(InvalidProgram, Program, "ab", (text, ("power", 0, kind)))


class FarTest(Case):
    def test_short_ones(self):
        for program, text in some_programs():
            letters = program.letters
            for pattern in all_texts(letters, 3)[:16] + ["".join(itertools.islice(itertools.cycle(letters), 12))]:
                self.assertEqual(far_count(program, pattern), count_of(pattern, text))
            for prime in PRIMES:
                weights = some_weights(letters, 6, 5, 3)
                self.assertEqual(far_sum(Sum(letters, weights, prime=prime), program), number_at(weights, prime, text))
                for depth in (1, 3, 5):
                    self.assertEqual(far_table(program, depth, prime=prime), Table.of(Word.of(letters, text), depth, prime=prime))
                for width in (0, 1, 3):
                    if prime is not None:
                        tally = some_tally(letters, width, 3, prime) if width else Tally(letters, (), {x: () for x in letters}, (), prime=prime)
                        self.assertEqual(far_tally(tally, program), tally.at(text))
            for reader in (some_reader(letters, 7, 1), some_turning(letters, 5, 2), some_reader(letters, 60, 3)):
                for state in (0, len(reader) - 1):
                    self.assertEqual(far_state(reader, state, program), told(reader, text, state))
                self.assertIs(far_answer(reader, program), answer(reader, text))

    def test_far_counts(self):
        """By words with great exponents, of which far texts are powers."""
        for one, two in ((10 ** 40 + 3, 10 ** 60), (HUNDRED, 7), (0, 10 ** 9), (1, 1)):
            program = Program("ab", (("text", "a"), ("power", 0, one), ("text", "b"), ("power", 2, two), ("join", 1, 3), ("join", 4, 1)))
            word = Word("ab", (("a", one), ("b", two), ("a", one)))
            for depth, prime in itertools.product((2, 4), PRIMES):
                table = Table.of(word, depth, prime=prime)
                self.assertEqual(far_table(program, depth, prime=prime), table)
                total = Sum("ab", {"": 3, "ab": -2, "ba": 5, "aa": 10 ** 30, "b": 1}, prime=prime)
                self.assertEqual(far_sum(total, program), total.at_word(word))
                # so many of it, one behind the other
                for number in (0, 1, 2, 10 ** 90 + 7):
                    self.assertEqual(far_table(program.power(number), depth, prime=prime), table.power(number))
                    self.assertEqual(far_count(program.power(number), "ab"), Table.of(word, 2).power(number)["ab"])
        self.assertEqual([far_count(FAR, "a") == 10 ** 30, far_count(FAR, "ab") == 10 ** 30 * (10 ** 30 + 3) // 2], [True, True])
        self.assertEqual(far_count(FAR, ""), 1)
        great = Program("a", FULL[:4] + (("power", 3, HUNDRED - 1),))
        size = 10 ** 400 - 10 ** 300
        told_count = 1
        for below in range(12):
            told_count = told_count * (size - below) // (below + 1)
        self.assertEqual(far_count(great, "a" * 12), told_count)
        for prime in PRIMES[1:]:
            self.assertEqual(far_sum(Sum("a", {"a" * 12: 1}, prime=prime), great), told_count % prime)

    def test_far_tallies_and_states(self):
        """Powers of tables that come round, and sums whose numbers are told by counts."""
        for prime, number in itertools.product((2, 3, 5, 7), (10 ** 30, HUNDRED - 1, 12345678901234567890)):
            program = Program("ab", (("text", "aab"), ("power", 0, number), ("text", "ba"), ("join", 1, 2)))
            total = Sum("ab", {"ab": 1, "aab": 3, "b": 1}, prime=prime)
            self.assertEqual(far_tally(tally_of(total), program), far_sum(total, program))
            tally = some_tally("ab", 2, 5, prime)
            # the tables of two rows come round, at the latest after so many steps
            square, seen, row = tally.ahead("aab"), [], tally.first
            rows = {}
            while row not in rows:
                rows[row] = len(seen)
                seen.append(row)
                square = Tally("ab", row, tally.moves, tally.last, prime=prime).ahead("aab")
                row = square.first
            start = rows[row]
            at = number if number < start else start + (number - start) % (len(seen) - start)
            self.assertEqual(far_tally(tally, program), Tally("ab", seen[at], tally.moves, tally.last, prime=prime).at("ba"))
            reader = some_reader("ab", 9, prime)
            state, states = 3, []
            while state not in states:
                states.append(state)
                state = told(reader, "aab", state)
            start = states.index(state)
            at = number if number < start else start + (number - start) % (len(states) - start)
            self.assertEqual(far_state(reader, 3, program), told(reader, "ba", states[at]))
            self.assertIs(far_answer(reader, program), far_state(reader, 0, program) in reader.yes)

    def test_wide_tallies(self):
        for prime in (2, 7):
            tally = some_tally("abc", 60, 1, prime)
            text = "abcacb" * 11
            program = Program("abc", (("text", "abcacb"), ("power", 0, 11)))
            self.assertEqual(far_tally(tally, program), tally.at(text))
            ones = Tally("a", (prime - 1,) * 60, {"a": ((prime - 1,) * 60,) * 60}, (prime - 1,) * 60, prime=prime)
            self.assertEqual(far_tally(ones, Program("a", (("text", "a" * 5), ("power", 0, 2)))), ones.at("a" * 10))
            square = tally.moves["a"]
            told_square = tuple(tuple(sum(square[down][at] * square[at][across] for at in range(60)) % prime for across in range(60))
                                for down in range(60))
            self.assertEqual(product_square(square, square, prime), told_square)

    def test_steps_that_are_not_needed(self):
        steps = (("text", "ab"), ("power", 0, HUNDRED), ("power", 1, HUNDRED), ("power", 2, 0), ("text", "b"), ("join", 3, 4))
        program = Program("ab", steps)
        self.assertEqual((program.text(), far_count(program, "b"), far_table(program, 1).entries), ("b", 1, (0, 1)))
        self.assertEqual(far_state(Reader("ab", {"a": (1, 0), "b": (0, 1)}, (0,)), 1, program), 1)


class RoundsTest(Case):
    def test_newton(self):
        for prime, letters in itertools.product(PRIMES, ("a", "ab", "abc")):
            for seed, text in enumerate(["", letters[0], letters, letters[-1] + letters[0], letters * 2 + letters[0], letters[::-1] * 3]):
                weights = some_weights(letters, 6, 5, seed)
                total = Sum(letters, weights, prime=prime)
                numbers = newton(total, text)
                self.assertTrue(not numbers or numbers[-1] != 0)
                self.assertLessEqual(len(numbers), (-1 if total.degree is None else total.degree) + 1)
                for number in range(12):
                    row, way = 0, 1
                    for at, factor in enumerate(numbers):
                        row += factor * way
                        way = way * (number - at) // (at + 1)
                    self.assertEqual(row if prime is None else row % prime, number_at(weights, prime, text * number))
                if prime is not None:
                    self.assertTrue(all(0 <= factor < prime for factor in numbers))
                    self.check_period(total, text, period(total, text))

    def check_period(self, total, text, told_period):
        """It brings all back, and no lesser number does."""
        numbers = [number_at(total.weights, total.prime, text * number) for number in range(2 * told_period + 8)]
        right = [size for size in range(1, told_period + 1) if all(one == other for one, other in zip(numbers, numbers[size:]))]
        self.assertEqual(right, [told_period])

    def test_periods(self):
        for prime in (2, 3, 5, 7):
            for size in range(1, 13):
                total = Sum("a", {"a" * size: 1}, prime=prime)
                least = prime
                while least <= size:
                    least *= prime
                self.assertEqual(period(total, "a"), least)
                self.assertEqual(newton(total, "a"), (0,) * size + (1,))
            self.assertEqual((period(Sum("a", {}, prime=prime), "a"), newton(Sum("a", {}, prime=prime), "a")), (1, ()))
            self.assertEqual((period(Sum("a", {"": 1}, prime=prime), "a"), newton(Sum("a", {"": 1}, prime=prime), "a")), (1, (1,)))
            self.assertEqual((period(Sum("a", {"a": 1}, prime=prime), ""), newton(Sum("a", {"": 3, "a": 1}, prime=5), "")), (1, (3,)))
        self.assertEqual(newton(Sum("ab", {"ab": 10 ** 199}), "ab" * 2000), (0, 10 ** 199 * 2001000, 10 ** 199 * 2000 ** 2))

    def told_round(self, reader, text):
        """By the answers to many of the text."""
        state, answers = 0, []
        for _ in range(400):
            answers.append(state in reader.yes)
            state = told(reader, text, state)
        for start in range(120):
            for size in range(1, 120):
                if all(answers[at] == answers[at + size] for at in range(start, 270)):
                    return start, size

    def test_rounds(self):
        readers = [*samples(), *turning_ones()]
        readers += [Reader("a", {"a": (1, 2, 3, 4, 5, 3)}, yes) for yes in ((), (0,), (0, 3), (1, 4), (2, 5), (0, 1, 2, 3, 4, 5), (1, 2, 3, 5), (2, 4, 5))]
        for reader in readers:
            if len(reader) <= 30:
                for text in all_texts(reader.letters, 2)[:7]:
                    start, size = round_of(reader, text)
                    self.assertEqual((start, size), self.told_round(reader, text))
                    if is_turning(reader):
                        self.assertEqual(start, 0)

    def test_edges_of_rounds(self):
        chain = Reader("a", {"a": tuple(range(1, 60)) + (59,)}, (58,))
        self.assertEqual(round_of(chain, "a"), (59, 1))
        self.assertEqual(round_of(chain, "a" * 58), (2, 1))
        self.assertEqual(round_of(chain, "a" * 60), (0, 1))
        self.assertEqual(round_of(chain, ""), (0, 1))
        self.assertEqual(round_of(Reader("a", {"a": tuple(range(1, 60)) + (0,)}, (40,)), "a" * 4000), (0, 3))
        self.assertEqual(round_of(Reader("a", {"a": tuple(range(1, 60)) + (0,)}, (39,)), "a" * 3999), (0, 20))
        # the states come round, and the answers do so earlier
        self.assertEqual(round_of(Reader("a", {"a": tuple(range(1, 60)) + (0,)}, (59,)), "a" * 4000), (0, 1))


class FarErrorsTest(Case):
    def test_slots(self):
        patterns = wrong_ones(is_some_text("ab", 400)) + ["abc", "a" * 401]
        self.check_slots(far_count, [PROGRAM_SLOT, Slot("ab", patterns, InvalidPattern)])
        self.check_slots(far_sum, [SUM_SLOT, PROGRAM_SLOT])
        tally = Slot(some_tally("ab", 1, 0, 2), TALLY_SLOT.wrong, InvalidTally)
        self.check_slots(far_tally, [tally, PROGRAM_SLOT])
        self.check_slots(far_table, [PROGRAM_SLOT, DEPTH_SLOT, PRIME_SLOT])
        reader = Slot(Reader("ab", {"a": (1, 0), "b": (0, 1)}, (0,)), READER_SLOT.wrong, InvalidReader)
        states = Slot(1, wrong_ones(lambda value: is_plain_integer(value) and 0 <= value < 2) + [2], InvalidNumber)
        self.check_slots(far_state, [reader, states, PROGRAM_SLOT])
        self.check_slots(far_answer, [reader, PROGRAM_SLOT])
        self.check_slots(newton, [SUM_SLOT, TEXT_SLOT])
        self.check_slots(period, [SUM_SLOT, TEXT_SLOT])
        self.check_slots(round_of, [reader, TEXT_SLOT])

    def test_then(self):
        self.too_many(12, far_count, FAR, "a" * 13)
        self.too_many(12, far_count, FAR, "ab" * 200)
        for letters in ("a", "abc", "ac"):
            program = Program.of(letters, "a")
            self.raised(InvalidOperation, far_sum, Sum("ab", {}), program)
            self.raised(InvalidOperation, far_tally, some_tally("ab", 1, 0, 2), program)
            self.raised(InvalidOperation, far_state, Reader("ab", {"a": (0,), "b": (0,)}, ()), 0, program)
            self.raised(InvalidOperation, far_answer, Reader("ab", {"a": (0,), "b": (0,)}, ()), program)
            self.bad_number(1, far_state, Reader("ab", {"a": (0,), "b": (0,)}, ()), 1, program)
        self.raised(InvalidOperation, far_tally, some_tally("ab", 1, 0), FAR)
        self.raised(InvalidOperation, period, Sum("ab", {"ab": 1}), "ab")
        self.raised(InvalidText, period, Sum("ab", {"ab": 1}), "abc")
