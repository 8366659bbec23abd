"""[0.19], [18.1] and stage 18: readers whose answers hang on counts modulo a product of primes."""

import itertools

from tests.helpers import Case, Slot, all_texts, every_kind, is_plain_integer, wrong_ones
from tests.test_least import READER_SLOT, some_turning
from tests.test_parts import primes_of, told_apart
from tests.test_prime import ENDS, EVEN, EVERY, PAIR, TRI, circle, copies, turning_ones
from tests.test_readers import answer, some_reader
from tests.test_sums import count_of
from tests.test_turns import cycles, order, told_turn
from whatcounts.errors import InvalidNumber, InvalidReader
from whatcounts.group.parts import first_clash, is_clash
from whatcounts.group.turns import Group
from whatcounts.reader.least import is_merge, is_turning, least_reader, reader_where
from whatcounts.reader.readers import Reader
from whatcounts.sums.sums import Sum
from whatcounts.tell.depth import depth_by
from whatcounts.tell.modulo import depth_modulo, is_modulo_paper, is_modulus, least_modulus, modulo_paper

MODULI = [2, 3, 5, 6, 7, 10, 14, 15, 21, 30, 35, 42, 70, 105, 210]
SIX = Reader("a", {"a": (1, 2, 3, 4, 5, 0)}, (0,))
MODULUS_SLOT = Slot(6, wrong_ones(lambda value: is_plain_integer(value) and value in MODULI) +
                    [1, 0, 4, 8, 9, 12, 20, 25, 28, 49, 209, 211, 420, -2, -6], InvalidNumber)


def both(one, other):
    """The reader that answers yes if both do; the group goes by both sides."""
    return one & other


def readers():
    yield from turning_ones()
    yield from (SIX, ENDS, some_reader("ab", 4, 1), copies(SIX, 3))
    for points in (5, 11, 15, 22, 30, 42, 55):
        yield circle(points)
    two = reader_where(Sum("ab", {"ab": 1}, prime=2), 1)
    three = reader_where(Sum("ab", {"b": 1}, prime=3), 2)
    late = reader_where(Sum("a", {"aa": 1}, prime=2), 1)
    five = reader_where(Sum("ab", {"a": 1, "b": 2}, prime=5), 1)
    yield from (both(two, three), two | three, two ^ three, both(three, five), late & circle(9), late & circle(3) & circle(5))
    # circles, turned over: their groups come apart only if the number of points is a power of 2
    for points in (3, 4, 5, 8, 9, 11):
        yield Reader("ab", {"a": cycles(points, range(points)), "b": tuple(-at % points for at in range(points))}, (0, 1))


class ModuloTest(Case):
    def told(self, reader, modulus):
        """The least depth by each part of the group by itself, told by its letters."""
        if not is_turning(reader):
            return None
        group = Group.of(reader)
        many = primes_of(len(group.all_turns()))
        if any(modulus % prime for prime in many) or not told_apart(group):
            return None
        depths = [0]
        for prime in many:
            # as a reader: the points are the turns of the part, and the answers are all unlike in turn
            size = 1
            while len(group.all_turns()) % (size * prime) == 0:
                size *= prime
            times = next(number for number in range(0, len(group.all_turns()) * size, len(group.all_turns()) // size)
                         if number % size == 1 % size)
            moves = {}
            for letter, turn in group.moves.items():
                led = tuple(range(len(group)))
                for _ in range(times):
                    led = tuple(turn[point] for point in led)
                moves[letter] = led
            part = [depth_by(Reader(group.letters, self.from_point(moves, point), (0,)), prime) for point in range(len(group))]
            depths.append(max(part))
        return max(depths)

    def from_point(self, moves, point):
        """The moves with a point as the first state."""
        def name(state):
            return {0: point, point: 0}.get(state, state)
        return {letter: tuple(name(turn[name(state)]) for state in range(len(turn))) for letter, turn in moves.items()}

    def test_depths(self):
        for reader in readers():
            moduli = MODULI if len(least_reader(reader)) < 20 else [2, 3, 30, 210]
            for modulus in moduli:
                self.assertEqual(depth_modulo(reader, modulus), self.told(reader, modulus), (str(reader), modulus))
            right = [modulus for modulus in MODULI if depth_modulo(reader, modulus) is not None]
            self.assertEqual(least_modulus(reader), min(right, default=None))
            # a modulus that divides another one tells no more
            for one, other in itertools.product(right, MODULI):
                if other % one == 0:
                    self.assertIn(other, right)
                    self.assertEqual(depth_modulo(reader, other), depth_modulo(reader, one))

    def test_primes(self):
        for reader in readers():
            for prime in (2, 3, 5, 7):
                self.assertEqual(depth_modulo(reader, prime), depth_by(reader, prime))

    def test_hanging(self):
        """Short texts with the same counts have the same answer, and not all if one letter less is counted."""
        two = reader_where(Sum("ab", {"ab": 1}, prime=2), 1)
        three = reader_where(Sum("ab", {"b": 1}, prime=3), 2)
        for reader, modulus, depth in ((SIX, 6, 1), (two & three, 6, 2), (circle(12), 6, 2), (PAIR, 2, 2), (two ^ three, 30, 2)):
            self.assertEqual(depth_modulo(reader, modulus), depth)
            texts = all_texts(reader.letters, 40 if reader.letters == "a" else 9)
            for size in (depth - 1, depth):
                told, right = {}, True
                for text in texts:
                    key = tuple(count_of(pattern, text) % modulus for pattern in all_texts(reader.letters, size)[1:])
                    right = right and told.setdefault(key, answer(reader, text)) == answer(reader, text)
                self.assertIs(right, size == depth)

    def test_answers_that_are_alike(self):
        for reader in (EVERY, ~EVERY, Reader("abc", dict.fromkeys("abc", (1, 0)), ())):
            for modulus in MODULI:
                self.assertEqual((depth_modulo(reader, modulus), modulo_paper(reader, modulus)), (0, ("depth", 0)))
                for value in (0, False, 1, None, "0", 2):
                    self.assertIs(is_modulo_paper(reader, modulus, ("depth", value)), type(value) is int and value == 0)
            self.assertEqual(least_modulus(reader), 2)

    def test_great_primes(self):
        self.assertEqual([least_modulus(circle(points)) for points in (11, 22, 13, 59, 55)], [None] * 5)
        self.assertEqual([least_modulus(circle(points)) for points in (60, 42, 35, 49, 8)], [30, 42, 35, 7, 2])
        self.assertEqual(modulo_paper(circle(11), 210), ("round", "a", 11))
        self.assertTrue(is_modulo_paper(circle(22), 210, ("round", "aa", 11)))
        self.assertFalse(is_modulo_paper(circle(22), 210, ("round", "a" * 11, 2)))
        wide = Reader("abc", {"a": cycles(60, range(25)), "b": tuple(range(60)), "c": cycles(60, range(59))}, (0,))
        self.too_many(2000, depth_modulo, wide, 210)

    def test_modulus(self):
        self.assertEqual([number for number in range(-300, 500) if is_modulus(number)], MODULI)
        for value in every_kind():
            self.assertIs(is_modulus(value), type(value) is int and value in MODULI)


class PapersTest(Case):
    def test_papers(self):
        for reader in readers():
            for modulus in (2, 3, 6, 7, 30, 210):
                paper = modulo_paper(reader, modulus)
                self.assertIs(is_modulo_paper(reader, modulus, paper), True)
                depth = depth_modulo(reader, modulus)
                if not is_turning(reader):
                    self.assertEqual(paper[0], "merge")
                elif depth is not None:
                    self.assertEqual(paper, ("depth", depth))
                else:
                    self.assertIn(paper[0], ("round", "apart"))
                for number in range(5):
                    self.assertIs(is_modulo_paper(reader, modulus, ("depth", number)), number == depth)
                if is_turning(reader):
                    clash = first_clash(Group.of(reader))
                    self.assertIs(is_modulo_paper(reader, modulus, ("apart",) + (clash or ("", "a"))), clash is not None)

    def test_rounds(self):
        for reader in (SIX, TRI, PAIR, circle(22), circle(30), some_turning("ab", 5, 1), copies(TRI, 2)):
            group = Group.of(reader)
            for text, modulus in itertools.product(all_texts(reader.letters, 6 if reader.letters == "a" else 3), (2, 3, 6, 7, 210)):
                number = order(told_turn(group, text))
                right = any(modulus % prime for prime in primes_of(number))
                self.assertIs(is_modulo_paper(reader, modulus, ("round", text, number)), right)
                for other in (2 * number, number + 1, -number, 0, str(number), None, True):
                    if other != number or other is True:
                        self.assertIs(is_modulo_paper(reader, modulus, ("round", text, other)), False)
        self.assertTrue(is_modulo_paper(SIX, 2, ("round", "a" * 3998, 3)))
        self.assertFalse(is_modulo_paper(SIX, 2, ("round", "a" * 4001, 6)))

    def test_clashes(self):
        for reader in (TRI, SIX, some_turning("ab", 4, 1), some_turning("ab", 5, 3), PAIR):
            group = Group.of(reader)
            texts = all_texts(reader.letters, 3)
            for modulus, one, other in itertools.product((2, 6, 210), texts, texts):
                self.assertIs(is_modulo_paper(reader, modulus, ("apart", one, other)), is_clash(group, (one, other)))

    def test_merges(self):
        for reader in (ENDS, some_reader("ab", 4, 1), PAIR):
            texts = all_texts("ab", 2)
            for letter, one, other in itertools.product("ab", texts, texts):
                self.assertIs(is_modulo_paper(reader, 6, ("merge", letter, one, other)), is_merge(reader, (letter, one, other)))
        for value in (("round", "a", 2), ("round", "a", 1), ("apart", "a", "b"), ("depth", 0), ("depth", None), ("depth", 1)):
            self.assertIs(is_modulo_paper(ENDS, 2, value), False)

    def test_values(self):
        for reader, modulus in itertools.product((SIX, TRI, ENDS, PAIR), (2, 6)):
            depth = depth_modulo(reader, modulus)
            for value in every_kind():
                self.assertIs(is_modulo_paper(reader, modulus, value), False)
                self.assertIs(is_modulo_paper(reader, modulus, ("depth", value)), type(value) is int and value == depth)
                self.assertIs(is_modulo_paper(reader, modulus, (value, "a", "ab")), False)
                self.assertIs(is_modulo_paper(reader, modulus, ("depth", depth, value)), False)
                self.assertIs(is_modulo_paper(reader, modulus, ["depth", depth]), False)
                self.assertIs(is_modulo_paper(reader, modulus, (value, depth)), False)
                self.assertIs(is_modulo_paper(reader, modulus, ("round", value)), False)
                right = is_turning(reader) and type(value) is int and value == order(Group.of(reader).moves["a"])
                right = right and any(modulus % prime for prime in primes_of(value))
                self.assertIs(is_modulo_paper(reader, modulus, ("round", "a", value)), right)
        self.assertFalse(is_modulo_paper(SIX, 6, ("hangs",)))

    def test_great_groups(self):
        reader = some_turning("ab", 60, 1)
        for modulus in MODULI:
            self.too_many(2000, depth_modulo, reader, modulus)
            self.too_many(2000, modulo_paper, reader, modulus)
            for value in (None, ("depth", 1), ("round", "a", 2), ("apart", "a", "b"), ("merge", "a", "", "a")):
                self.too_many(2000, is_modulo_paper, reader, modulus, value)
        self.too_many(2000, least_modulus, reader)
        merges = some_reader("abc", 60, 1)
        self.assertEqual((depth_modulo(merges, 210), least_modulus(merges), modulo_paper(merges, 2)[0]), (None, None, "merge"))
        self.assertTrue(is_modulo_paper(merges, 2, modulo_paper(merges, 2)))


class ModuloErrorsTest(Case):
    def test_slots(self):
        reader = Slot(EVEN, READER_SLOT.wrong, InvalidReader)
        for call in (depth_modulo, modulo_paper):
            self.check_slots(call, [reader, MODULUS_SLOT])
        self.check_slots(least_modulus, [reader])
        for value in (None, ("depth", 1), ("round", "a", 2)):
            self.check_slots(lambda *parts: is_modulo_paper(*parts, value), [reader, MODULUS_SLOT])
        for modulus in (1, 4, 420, True, None):
            for call in (depth_modulo, modulo_paper):
                self.bad_number(modulus, call, some_turning("ab", 60, 1), modulus)
                self.bad_number(modulus, call, ENDS, modulus)
