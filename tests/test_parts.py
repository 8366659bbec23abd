"""[14.2]: parts of groups for primes, and clashes."""

import itertools

from tests.helpers import Case, Slot, all_texts, every_kind
from tests.test_falling import GROUP_SLOT, PRIME_SLOT
from tests.test_tables import WORD_SLOT
from tests.test_turns import FOUR, SIX, THREE, cycles, order, small_groups, some_group, then, told_texts, told_turn
from whatcounts.errors import InvalidOperation, InvalidWord
from whatcounts.group.parts import comes_apart, first_clash, is_clash, prime_part, prime_parts
from whatcounts.group.turns import Group
from whatcounts.word.words import Word


def primes_of(number):
    return [prime for prime in range(2, number + 1) if number % prime == 0 and all(prime % less for less in range(2, prime))]


def told_parts(group):
    turns = sorted(told_texts(group))
    orders = {turn: primes_of(order(turn)) for turn in turns}
    return {prime: tuple(turn for turn in turns if orders[turn] in ([], [prime])) for prime in primes_of(len(turns))}


def commute(one, other):
    return then(one, other) == then(other, one)


def told_apart(group):
    parts = told_parts(group)
    return all(commute(one, other) for left, right in itertools.combinations(parts, 2)
               for one in parts[left] for other in parts[right])


def told_clash(group):
    """The first clash, by all pairs of texts in order."""
    texts = told_texts(group)
    primes = {turn: primes_of(order(turn)) for turn in texts}
    for one, other in itertools.product(texts, texts):
        if len(primes[one]) == 1 and len(primes[other]) == 1 and primes[one] != primes[other] and not commute(one, other):
            return texts[one], texts[other]
    return None


def some_groups():
    yield from small_groups()
    # the groups of six, ten, twenty-two and fifty-five points in a circle, some of them turned over
    for points in (6, 10, 22, 55):
        yield Group("a", {"a": cycles(points, range(points))})
    for points in (5, 11, 13, 15):
        yield Group("ab", {"a": cycles(points, range(points)), "b": tuple(-at % points for at in range(points))})
    # a group of twenty-one turns, and one of eight and of three turns side by side, that commute
    yield Group("ab", {"a": cycles(7, range(7)), "b": cycles(7, (1, 2, 4), (3, 6, 5))})
    yield Group("abc", {"a": cycles(7, (0, 1, 2, 3)), "b": cycles(7, (0, 2)), "c": cycles(7, (4, 5, 6))})
    # what does not commute comes late: a circle of twenty points, and three points in all their orders
    yield Group("abc", {"a": cycles(23, range(20)), "b": cycles(23, (20, 21)), "c": cycles(23, (20, 21, 22))})
    yield Group("abc", {"a": cycles(17, range(5)), "b": cycles(17, range(5, 12)), "c": cycles(17, range(12, 14), (14, 15, 16))})
    yield Group("ab", {"a": cycles(5, (0, 1, 2)), "b": cycles(5, (0, 1, 2, 3, 4))})


class PartsTest(Case):
    def test_parts(self):
        for group in some_groups():
            parts = prime_parts(group)
            self.assertEqual(parts, told_parts(group))
            self.assertEqual(list(parts), sorted(parts))
            self.assertIs(comes_apart(group), told_apart(group))
        self.assertEqual(list(prime_parts(Group("a", {"a": cycles(60, range(59))}))), [59])
        self.assertEqual(list(prime_parts(Group("ab", {"a": cycles(60, range(11)), "b": cycles(60, range(11, 48))}))), [11, 37])
        self.assertEqual((prime_parts(Group("a", {"a": (0, 1)})), comes_apart(Group("a", {"a": (0, 1)}))), ({}, True))

    def test_no_state_is_shared(self):
        parts = prime_parts(SIX)
        parts.clear()
        self.assertEqual(list(prime_parts(SIX)), [2, 3])

    def test_prime_part(self):
        for group in some_groups():
            letters = group.letters
            if not told_apart(group):
                for prime in (2, 3, 5, 7):
                    self.raised(InvalidOperation, prime_part, group, Word(letters, ()), prime)
                continue
            still = tuple(range(len(group)))
            parts = told_parts(group)
            for text in ("", letters, letters[0] * 3, letters.upper() + letters[-1] * 7):
                turn = told_turn(group, text)
                # just one choice of a turn from each part has the turn as its product
                choices = [chosen for chosen in itertools.product(*parts.values())
                           if self.product(chosen, still) == turn]
                self.assertEqual(len(choices), 1)
                told = dict(zip(parts, choices[0]))
                for prime in (2, 3, 5, 7):
                    self.assertEqual(prime_part(group, Word.of(letters, text), prime), told.get(prime, still))

    def product(self, turns, still):
        led = still
        for turn in turns:
            led = then(led, turn)
        return led

    def test_great_exponents(self):
        word = Word("a", (("a", 10 ** 30 + 1),))
        self.assertEqual(prime_part(SIX, word, 2), told_turn(SIX, "a" * ((10 ** 30 + 1) % 6 * 3)))
        self.assertEqual(prime_part(SIX, word, 3), told_turn(SIX, "a" * ((10 ** 30 + 1) % 6 * 4)))
        self.assertEqual(prime_part(SIX, word, 7), tuple(range(6)))
        wide = Group("a", {"a": cycles(60, range(16), range(16, 43), range(43, 48))})
        self.assertRaises(OverflowError, prime_part, wide, word, 2)
        less = Group("a", {"a": cycles(60, range(16), range(16, 25), range(25, 32))})
        parts = [prime_part(less, word, prime) for prime in (2, 3, 5, 7)]
        self.assertEqual([order(turn) for turn in parts], [16, 9, 1, 7])
        self.assertEqual(self.product(parts, tuple(range(60))), less.turn(word))


class ClashesTest(Case):
    def test_first_clashes(self):
        for group in some_groups():
            clash = told_clash(group)
            self.assertEqual(first_clash(group), clash)
            self.assertIs(comes_apart(group), clash is None)
            if clash is not None:
                self.assertIs(is_clash(group, clash), True)
                self.assertIs(is_clash(group, clash[::-1]), True)
                self.assertEqual(clash, tuple(group.text_for(told_turn(group, text)) for text in clash))

    def test_clashes(self):
        for group in (THREE, FOUR, SIX, some_group("ab", 4, 1), some_group("abc", 4, 2), some_group("ab", 5, 0)):
            texts = all_texts(group.letters, 4 if group.letters == "a" else 3)
            turns = {text: told_turn(group, text) for text in texts}
            primes = {text: primes_of(order(turn)) for text, turn in turns.items()}
            for one, other in itertools.product(texts, texts):
                right = len(primes[one]) == 1 == len(primes[other]) and primes[one] != primes[other]
                self.assertIs(is_clash(group, (one, other)), right and not commute(turns[one], turns[other]))

    def test_values(self):
        for value in every_kind():
            self.assertIs(is_clash(THREE, value), False)
            right = isinstance(value, str) and set(value) <= set("ab") and len(value) <= 4000
            right = right and order(told_turn(THREE, value)) == 3
            for pair in (("a", value), (value, "a")):
                self.assertIs(is_clash(THREE, pair), right, str(value)[:60])
            for other in ([value], (value,), ["a", value], ("a", "ab", value), {"a": "ab"}):
                self.assertIs(is_clash(THREE, other), False)
        for value in (["a", "ab"], ("a", "ab", ""), ("a",), ("a", "aB"), ("a", "abc"), ("a", "ab" * 2000 + "b"), "ab", ("A", "ab")):
            self.assertIs(is_clash(THREE, value), False)
        self.assertTrue(is_clash(THREE, ("a", "ab" * 2000)))
        self.assertTrue(is_clash(THREE, ("ab" * 1000 + "b" * 1999, "ba")))
        self.assertFalse(is_clash(THREE, ("a", "ab" * 1998)))

    def test_great_groups(self):
        late = Group("abc", {"a": cycles(60, range(25)), "b": cycles(60, range(25, 32), (32, 33)), "c": cycles(60, (32, 33, 34))})
        self.assertEqual(len(late.all_turns()), 1050)
        self.assertEqual((first_clash(late), comes_apart(late)), (told_clash(late), False))
        many = Group("abc", {"a": cycles(60, range(20)), "b": cycles(60, range(20, 30)), "c": cycles(60, range(30, 40))})
        self.assertEqual((first_clash(many), comes_apart(many)), (None, True))
        self.assertEqual({prime: len(part) for prime, part in prime_parts(many).items()}, {2: 16, 5: 125})


class PartsErrorsTest(Case):
    def test_slots(self):
        for call in (prime_parts, comes_apart, first_clash):
            self.check_slots(call, [GROUP_SLOT])
        self.check_slots(lambda group: is_clash(group, None), [GROUP_SLOT])
        group = Slot(FOUR, GROUP_SLOT.wrong, GROUP_SLOT.error)
        self.check_slots(prime_part, [group, WORD_SLOT, PRIME_SLOT])

    def test_then(self):
        more, other = some_group("ab", 60, 1), Word("abc", ())
        word = Word.of("ab", "a")
        for call in (prime_parts, comes_apart, first_clash):
            self.too_many(2000, call, more)
        for value in (None, ("a", "b"), "a", ()):
            self.too_many(2000, is_clash, more, value)
        self.too_many(2000, prime_part, more, word, 2)
        self.bad_number(11, prime_part, more, word, 11)
        self.bad_number(11, prime_part, THREE, other, 11)
        self.raised(InvalidWord, prime_part, more, "a", 11)
        # unlike letters come ahead of what the section says with "then"
        self.raised(InvalidOperation, prime_part, more, other, 2)
        self.raised(InvalidOperation, prime_part, THREE, other, 2)
        self.raised(InvalidOperation, prime_part, SIX, word, 2)
        self.raised(InvalidOperation, prime_part, THREE, word, 2)
