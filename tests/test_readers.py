"""[0.14] and stage 9: readers."""

import inspect
import itertools
import random

from tests.helpers import Case, Slot, all_texts, every_kind, is_plain_integer, is_some_letters, is_some_text, wrong_ones
from whatcounts.errors import InvalidLetters, InvalidNumber, InvalidOperation, InvalidText
from whatcounts.reader import readers
from whatcounts.reader.readers import Reader

LETTERS_SLOT = Slot("ab", wrong_ones(is_some_letters), InvalidLetters)
TEXT_SLOT = Slot("ab", wrong_ones(is_some_text("ab", 4000)) + ["abc", "ab" * 2000 + "a"], InvalidText)


def some_reader(letters, many, seed):
    source = random.Random(f"{letters} {many} {seed}")
    moves = {letter: tuple(source.randrange(many) for _ in range(many)) for letter in letters}
    return Reader(letters, moves, tuple(state for state in range(many) if source.random() < 0.4))


def told(reader, text, start=0):
    """The state to which a text leads one."""
    state = start
    for letter in text:
        state = reader.moves[letter][state]
    return state


def answer(reader, text):
    return told(reader, text) in reader.yes


def texts_over(letters, size=6):
    return all_texts(letters, {"a": 9, "ab": size, "abc": 4}[letters])


def by_first_texts(letters, texts, key):
    """The keys of texts, each once, in the order of the first texts that have them."""
    return list(dict.fromkeys(key(text) for text in texts))


def samples():
    for letters in ("a", "ab", "abc"):
        for many in (1, 2, 3, 5, 8):
            for seed in range(3):
                yield some_reader(letters, many, seed)


class ReaderTest(Case):
    def test_constant(self):
        self.assertEqual(readers.MAX_STATES, 60)

    def test_properties(self):
        moves = {"b": (2, 2, 0), "a": (1, 0, 2)}
        reader = Reader("ab", moves, (0, 2))
        self.assertEqual((reader.letters, reader.yes, len(reader)), ("ab", (0, 2), 3))
        self.assertEqual((reader.moves, list(reader.moves)), (moves, ["a", "b"]))
        self.assertEqual(str(reader), "reader of 3 states over ab")
        self.assertEqual(str(Reader("xyz", {"z": (0,), "x": (0,), "y": (0,)}, ())), "reader of 1 states over xyz")
        self.check_not_iterable(reader)

    def test_answers(self):
        for reader in samples():
            for text in texts_over(reader.letters):
                self.assertIs(text in reader, answer(reader, text))
                self.assertEqual(reader.led(0, text), told(reader, text))
            for state in range(len(reader)):
                self.assertEqual(reader.led(state, reader.letters * 3), told(reader, reader.letters * 3, state))

    def test_values_in_readers(self):
        every = Reader("ab", {"a": (0,), "b": (0,)}, (0,))
        is_text = is_some_text("ab", 4000)
        for value in [*every_kind(), "abc", "ab" * 2000 + "a", "b" * 4001, "a" * 4000, ("a",), ["a", "b"], {"a": "b"}]:
            self.assertIs(value in every, is_text(value))
            self.assertIs(value in ~every, False)
        even = Reader("ab", {"a": (1, 0), "b": (0, 1)}, (0,))
        self.assertTrue("a" * 4000 in even)
        self.assertFalse("a" * 3999 in even)
        self.assertFalse("a" * 4002 in even)
        self.assertEqual(even.led(1, "ab" * 1999), 0)

    def test_equality(self):
        moves = {"a": (1, 0), "b": (0, 1)}
        others = [Reader("ab", moves, ()), Reader("ab", moves, (1,)), Reader("ab", {"a": (1, 0), "b": (1, 1)}, (0,)),
                  Reader("ac", {"a": (1, 0), "c": (0, 1)}, (0,)), Reader("ab", {"a": (0,), "b": (0,)}, (0,)),
                  Reader("ab", {"a": (1, 0, 0), "b": (0, 1, 1)}, (0,)), Reader("a", {"a": (1, 0)}, (0,))]
        some = Reader("ab", {"b": (0, 1), "a": (1, 0)}, (0,))
        self.assertTrue(some == Reader("ab", moves, (0,)))
        kinds = [value for value in every_kind() if not isinstance(value, Reader)]
        for value in [*kinds, *others]:
            self.assertIs(some == value, False)
            self.assertIs(some != value, True)

    def test_no_state_is_shared(self):
        moves = {"a": (1, 0), "b": (0, 1)}
        reader = Reader("ab", moves, (0,))
        right = dict(moves)
        moves["a"] = (0, 0)
        moves["c"] = (0, 0)
        reader.moves["b"] = (1, 1)
        reader.moves.clear()
        (~reader).moves.clear()
        reader.behind("a").moves.clear()
        reader.ahead("").moves.clear()
        self.assertEqual((reader.moves, "aa" in reader), (right, True))
        for name, value in (("letters", "a"), ("moves", {}), ("yes", ())):
            with self.assertRaises(AttributeError):
                setattr(reader, name, value)


class OperatorsTest(Case):
    def test_opposite(self):
        for reader in samples():
            other = ~reader
            self.assertEqual((other.letters, other.moves), (reader.letters, reader.moves))
            self.assertEqual(other.yes, tuple(state for state in range(len(reader)) if state not in reader.yes))
            self.assertTrue(~other == reader)

    def test_pairs(self):
        for letters in ("a", "ab", "abc"):
            for seed in range(8):
                one, other = some_reader(letters, 4, seed), some_reader(letters, 3, seed + 1)
                texts = all_texts(letters, 12 if letters == "a" else 7)
                pairs = by_first_texts(letters, texts, lambda text: (told(one, text), told(other, text)))
                for reader, call in ((one & other, min), (one | other, max), (one ^ other, lambda pair: sum(pair) == 1)):
                    self.assertEqual((len(reader), reader.letters), (len(pairs), letters))
                    for text in texts:
                        self.assertEqual(text in reader, bool(call([answer(one, text), answer(other, text)])))
                        self.assertEqual(reader.led(0, text), pairs.index((told(one, text), told(other, text))))

    def test_limits(self):
        def cycle(letters, many):
            return Reader(letters, dict.fromkeys(letters, tuple((state + 1) % many for state in range(many))), (0,))
        for call in (lambda one, other: one & other, lambda one, other: one | other, lambda one, other: one ^ other):
            self.assertEqual(len(call(cycle("ab", 4), cycle("ab", 15))), 60)
            self.too_many(60, call, cycle("ab", 7), cycle("ab", 9))
            self.too_many(60, call, cycle("a", 61 - 1), cycle("a", 59))
            self.assertEqual(len(call(cycle("a", 60), cycle("a", 30))), 60)
            self.assertEqual(call(cycle("a", 60), cycle("a", 30)).moves, cycle("a", 60).moves)
            for other in [*wrong_ones(lambda value: False), cycle("abc", 2), cycle("a", 2), cycle("ac", 2)]:
                if not (isinstance(other, Reader) and other.letters == "ab"):
                    self.raised(InvalidOperation, call, cycle("ab", 60), other)

    def test_behind(self):
        for reader in samples():
            for end in ("", "a", reader.letters * 2, reader.letters[::-1]):
                behind = reader.behind(end)
                self.assertEqual((behind.moves, behind.letters), (reader.moves, reader.letters))
                self.assertEqual(behind.yes, tuple(state for state in range(len(reader)) if told(reader, end, state) in reader.yes))
                for text in texts_over(reader.letters, 4):
                    self.assertIs(text in behind, answer(reader, text + end))

    def test_ahead(self):
        for reader in samples():
            for start in ("", "a", reader.letters * 2, reader.letters[::-1]):
                ahead = reader.ahead(start)
                texts = texts_over(reader.letters, 7)
                states = by_first_texts(reader.letters, texts, lambda text: told(reader, start + text))
                self.assertEqual((len(ahead), ahead.letters), (len(states), reader.letters))
                for text in texts:
                    self.assertIs(text in ahead, answer(reader, start + text))
                    self.assertEqual(states[ahead.led(0, text)], told(reader, start + text))
        long = some_reader("ab", 60, 1)
        for text in texts_over("ab"):
            self.assertIs(text in long.ahead("ab" * 2000), answer(long, "ab" * 2000 + text))

    def test_all_sixty_states(self):
        many = 60
        step = tuple((state + 7) % many for state in range(many))
        reader = Reader("a", {"a": step}, (59,))
        ahead = reader.ahead("a")
        self.assertEqual(ahead.moves, {"a": tuple((state + 1) % many for state in range(many))})
        self.assertEqual([size for size in range(130) if "a" * size in ahead],
                         [size for size in range(130) if 7 * (size + 1) % 60 == 59])


class TextsTest(Case):
    def test_texts(self):
        for reader in samples():
            for size in range({"a": 9, "ab": 6, "abc": 4}[reader.letters] + 1):
                right = [text for text in all_texts(reader.letters, size) if len(text) == size and answer(reader, text)]
                self.assertEqual(list(reader.texts(size)), right)

    def test_it_is_a_generator(self):
        reader = some_reader("ab", 3, 0)
        self.assertTrue(inspect.isgenerator(reader.texts(2)))
        for value in wrong_ones(lambda value: is_plain_integer(value) and 0 <= value <= 4000):
            telling = reader.texts(value)
            self.bad_number(value, next, telling)
        for value in (-1, 4001, True, None, "2", (2,)):
            self.bad_number(value, next, reader.texts(value))

    def test_sizes(self):
        every = Reader("ab", {"a": (0,), "b": (0,)}, (0,))
        self.assertEqual(list(every.texts(0)), [""])
        self.assertEqual(list((~every).texts(0)), [])
        telling = every.texts(4000)
        self.assertEqual([next(telling) for _ in range(4)], ["a" * 4000, "a" * 3999 + "b", "a" * 3998 + "ba", "a" * 3998 + "bb"])
        self.assertEqual(list((~every).texts(4000)), [])

    def test_few_of_many(self):
        """Only texts with all letters b ahead of all letters a, and in just one place."""
        reader = Reader("abc", {"a": (3, 2, 2, 3), "b": (0, 1, 3, 3), "c": (1, 3, 3, 3)}, (2,))
        for size in (2, 5, 60, 4000):
            texts = list(itertools.islice(reader.texts(size), 5))
            if size <= 60:
                right = ["b" * ahead + "c" + "b" * between + "a" * (size - 1 - ahead - between)
                         for ahead in range(size) for between in range(size - 1 - ahead)]
                self.assertEqual(list(reader.texts(size)), sorted(right))
            self.assertEqual(len(texts), min(5, size * (size - 1) // 2))
            self.assertTrue(all(text in reader and len(text) == size for text in texts))
        # just one text of four thousand letters, and none that is one letter shorter
        odd = Reader("ab", {"a": (2, 2, 2), "b": (1, 0, 2)}, (0,))
        self.assertEqual(list(odd.texts(4000)), ["b" * 4000])
        self.assertEqual(list(odd.texts(3999)), [])

    def test_last_texts(self):
        """A text that comes last in the order is told without going through the others."""
        last = Reader("ab", {"a": (1, 1), "b": (0, 1)}, (0,))
        self.assertEqual(list(last.texts(3000)), ["b" * 3000])


class ReaderErrorsTest(Case):
    def wrong_moves(self):
        right = (1, 0)
        rows = [[1, 0], (1, 2), (1, -1), (1, True), (True, False), (1, None), (1, "0"), (1, 0, 0), (1,), (), None, "10", (1, 10 ** 250)]
        wrong = [{"a": right, "b": row} for row in rows] + [{"a": row, "b": right} for row in rows]
        wrong += [{"a": right}, {"b": right}, {"a": right, "b": right, "c": right}, {"a": right, "c": right}, {},
                  {"a": (), "b": ()}, {"a": right, 1: right}, {"A": right, "b": right}, {"ab": right, "b": right}]
        sixty_one = tuple(range(61))
        return wrong + [{"a": sixty_one, "b": sixty_one}] + wrong_ones(lambda value: False)

    def test_constructor(self):
        yes = [(1, 0), (0, 0), (0, 2), (-1,), (True,), (0, True), [0], (0, None), ("0",), "0", (0, 1, 2)]
        yes += wrong_ones(lambda value: value == () or value == (1,)) + [(0, 10 ** 250), {0: 1}]
        slots = [LETTERS_SLOT, Slot({"a": (1, 0), "b": (0, 1)}, self.wrong_moves(), InvalidOperation),
                 Slot((0, 1), yes, InvalidOperation)]
        self.check_slots(Reader, slots)

    def test_states(self):
        for many in (1, 2, 60):
            row = tuple(range(many))
            reader = Reader("ab", {"a": row, "b": row[::-1]}, row)
            self.assertEqual((len(reader), reader.yes), (many, row))
            self.raised(InvalidOperation, Reader, "ab", {"a": row, "b": row[::-1]}, row + (many,))
        row = tuple(range(61))
        self.raised(InvalidOperation, Reader, "a", {"a": row}, ())
        self.assertEqual(Reader("a", {"a": (0,) * 60}, ()).yes, ())

    def test_calls(self):
        reader = some_reader("ab", 3, 1)
        states = wrong_ones(lambda value: is_plain_integer(value) and 0 <= value < 3) + [3, -1]
        self.check_slots(reader.led, [Slot(2, states, InvalidNumber), TEXT_SLOT])
        self.check_slots(reader.behind, [TEXT_SLOT])
        self.check_slots(reader.ahead, [TEXT_SLOT])
