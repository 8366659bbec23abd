"""What several tests use: values of every kind, and the order in which arguments are checked."""

import itertools
import unittest

from whatcounts.desk.desk import Desk
from whatcounts.errors import InvalidNumber, TooMany
from whatcounts.far.programs import Program
from whatcounts.group.turns import Group
from whatcounts.reader.readers import Reader
from whatcounts.sums.sums import Sum
from whatcounts.table.tables import Table
from whatcounts.tally.tallies import Tally
from whatcounts.text.shell import Shell
from whatcounts.word.words import Word

MOST = 10 ** 200 - 1
ALL_LETTERS = {"".join(chosen) for size in (1, 2, 3)
               for chosen in itertools.combinations("abcdefghijklmnopqrstuvwxyz", size)}


def all_texts(letters, size):
    return ["".join(signs) for length in range(size + 1) for signs in itertools.product(letters, repeat=length)]


def texts_in_order(texts):
    return sorted(texts, key=lambda text: (len(text), text))


def weights_by_numbers(letters, size, call):
    """The weights that are not 0 at all patterns of at most so many letters, by leaving out one place at a time."""
    rows = {text: call(text) for text in all_texts(letters, size)}
    for at in range(size):
        rows = {text: rows[text] - rows[text[:at] + text[at + 1:]] if at < len(text) else rows[text] for text in rows}
    return {text: number for text, number in rows.items() if number != 0}


def deep(levels):
    value = ()
    for level in range(levels - 1):
        value = [(value,), [value], {"a": value}][level % 3]
    return value


def every_kind():
    """Values of all kinds that [0.4] names."""
    integers = [0, 1, 2, 3, 4, 5, 6, 7, 9, 11, 12, 13, 60, 200, 400, 401, 4000, 10 ** 30]
    integers += [MOST, MOST + 1, 10 ** 200 + 7, 10 ** 299, 10 ** 300 - 1]
    integers += [-number for number in integers]
    strings = ["", "a", "b", "ab", "ba", "aa", "abc", "acb", "abca", "abcd", "aab", "A", "aB", "aBa", "aBA", "xyz", "z"]
    strings += ["left", "abcdefgh", "abcdefghi", "Left", "le ft", "l3ft", "a\n", "\na", "\n", " ", "a b", "~", "3", "a,b"]
    strings += ["a" * 400, "a" * 401, "b" * 4000, "ab" * 2000, "aB" * 2000, "~" * 4000, "a" * 3999 + "\n"]
    others = [True, False, None, (), (1,), ("a",), ("a", 1), (("a", 1),), [], [1], ["a"], [["a", 1]], {}, {"a": 1}]
    others += [{1: "a"}, {"": 0}, {"a": ((1,),)}, {("a", 1): None}, deep(10), (None, True), ("", ""), (0, 1, 2)]
    objects = [Word("ab", ()), Word("ab", (("a", 1),)), Sum("ab", {"ab": 1}), Sum("a", {}, prime=2)]
    objects += [Tally("a", (), {"a": ()}, ()), Tally("a", (1,), {"a": ((1,),)}, (1,), prime=3)]
    objects += [Reader("ab", {"a": (1, 0), "b": (0, 1)}, (0,)), Reader("a", {"a": (0,)}, ())]
    objects += [Table("ab", 1, (1, -1)), Table("a", 2, (1, 0), prime=2)]
    objects += [Group("ab", {"a": (1, 0), "b": (0, 1)}), Group("a", {"a": (0,)})]
    objects += [Program.of("ab", "ab"), Program("a", (("text", ""), ("power", 0, 3))), Desk("ab"), Desk("a", prime=2), Shell("ab")]
    return integers + strings + others + objects


def wrong_ones(is_right):
    """The values of all kinds but those that are right."""
    return [value for value in every_kind() if not is_right(value)]


def is_plain_integer(value):
    return isinstance(value, int) and not isinstance(value, bool) and len(str(abs(value))) <= 200


def is_some_text(letters, most):
    """A judge of texts, told sign by sign."""
    return lambda value: isinstance(value, str) and len(value) <= most and all(sign in letters for sign in value)


def is_some_letters(value):
    return isinstance(value, str) and value in ALL_LETTERS


class Slot:
    """A parameter: a right value for it, wrong values, and the error that these raise."""

    def __init__(self, right, wrong, error, keyword=None):
        self.right = right
        self.wrong = list(wrong)
        self.error = error
        self.keyword = keyword


class Case(unittest.TestCase):
    def raised(self, error, call, *values, **named):
        """The error of a call, which must be of just this class."""
        with self.assertRaises(error) as caught:
            call(*values, **named)
        self.assertIs(type(caught.exception), error)
        return caught.exception

    def too_many(self, limit, call, *values, **named):
        self.assertEqual(self.raised(TooMany, call, *values, **named).limit, limit)

    def bad_number(self, value, call, *values, **named):
        self.assertIs(self.raised(InvalidNumber, call, *values, **named).value, value)

    def check_slots(self, call, slots):
        """The first wrong argument decides: each one alone, and two or three at once."""
        for many in (1, 2, 3):
            for chosen in itertools.combinations(range(len(slots)), many):
                rows = [slots[at].wrong if many == 1 else slots[at].wrong[:3] for at in chosen]
                for wrong in itertools.product(*rows):
                    self._check_wrong(call, slots, dict(zip(chosen, wrong)))

    def _check_wrong(self, call, slots, wrong):
        values = [wrong.get(at, slot.right) for at, slot in enumerate(slots)]
        plain = [value for value, slot in zip(values, slots) if slot.keyword is None]
        named = {slot.keyword: value for value, slot in zip(values, slots) if slot.keyword is not None}
        first = min(wrong)
        with self.subTest(wrong=str(wrong)[:200]):
            error = self.raised(slots[first].error, call, *plain, **named)
            if slots[first].error is InvalidNumber:
                self.assertIs(error.value, wrong[first])

    def check_equality(self, make, others):
        """`==` and `!=` with an equal value, with all kinds of values, and with some that differ a little."""
        self.assertTrue(make() == make())
        self.assertFalse(make() != make())
        for value in [*every_kind(), *others]:
            with self.subTest(value=str(value)[:100]):
                self.assertIs(make() == value, False)
                self.assertIs(make() != value, True)

    def check_not_iterable(self, value):
        with self.assertRaises(TypeError):
            iter(value)
