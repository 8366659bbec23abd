"""[21.1] and stage 21: a desk."""

import itertools
import random

from tests.helpers import Case, Slot, all_texts, every_kind, is_plain_integer, is_some_text, wrong_ones
from tests.test_readers import answer, some_reader, told
from tests.test_sums import count_of, number_at, some_weights
from tests.test_tables import DEPTH_SLOT
from tests.test_tallies import LETTERS_SLOT, PRIME_SLOT
from whatcounts.desk import desk as module
from whatcounts.desk.desk import Desk
from whatcounts.errors import CountError, InvalidLetters, InvalidName, InvalidNumber, InvalidOperation, InvalidText, NothingToUndo
from whatcounts.errors import TooMany, UnknownName
from whatcounts.reader.readers import Reader
from whatcounts.sums.sums import Sum
from whatcounts.table.tables import Table
from whatcounts.word.words import Word

PRIMES = (None, 2, 3, 5, 7)
HUNDRED = 10 ** 100
EVEN = Reader("ab", {"a": (1, 0), "b": (0, 1)}, (0,))
AB = Sum("ab", {"ab": 1})
TEXT_SLOT = Slot("ab", wrong_ones(is_some_text("ab", 4000)) + ["abc", "ab" * 2000 + "a"], InvalidText)
NAMES = ["b", "a", "abcdefgh", "zz", "even", "x", "y", "w", "v", "u"]


class Plain:
    """A desk that keeps its text, and copies of all its earlier states."""

    def __init__(self, letters, prime):
        self.letters, self.prime = letters, prime
        self.rows, self.at = [("", {}, ())], 0

    @property
    def now(self):
        return self.rows[self.at]

    def go_on(self, text, functions, held):
        self.rows = self.rows[:self.at + 1] + [(text, functions, held)]
        self.at += 1

    def number(self, name, more=""):
        function = self.now[1][name]
        if isinstance(function, Sum):
            return number_at(function.weights, self.prime, self.now[0] + more)
        return int(answer(function, self.now[0] + more))

    def move(self, text):
        functions, held = self.now[1:]
        after = Plain(self.letters, self.prime)
        after.go_on(text, functions, held)
        if any(self.number(name) != after.number(name) for name in held):
            return "InvalidOperation"
        self.go_on(text, functions, held)

    def watch(self, name, function):
        text, functions, held = self.now
        if name in functions:
            return "InvalidOperation"
        if len(functions) == 8:
            return "TooMany"
        self.go_on(text, {**functions, name: function}, held)

    def drop(self, name):
        text, functions, held = self.now
        if name not in functions:
            return "UnknownName"
        if name in held:
            return "InvalidOperation"
        self.go_on(text, {each: function for each, function in functions.items() if each != name}, held)

    def hold(self, name, is_held):
        text, functions, held = self.now
        if name not in functions:
            return "UnknownName"
        if (name in held) == is_held:
            return "InvalidOperation"
        self.go_on(text, functions, tuple(sorted(held + (name,))) if is_held else tuple(each for each in held if each != name))

    def turn(self, many):
        if not 0 <= self.at + many < len(self.rows):
            return "NothingToUndo"
        self.at += many
        return self.at


def some_function(letters, prime, source):
    if source.random() < 0.5:
        return some_reader(letters, source.choice([1, 2, 3, 7]), source.random())
    return Sum(letters, some_weights(letters, source.randrange(4), 5, source.random()), prime=prime)


class DrawnTest(Case):
    """All calls in drawn orders, against a desk that keeps its text."""

    def check_alike(self, desk, plain):
        text, functions, held = plain.now
        self.assertEqual((desk.size, desk.names, desk.held, len(desk)), (len(text), tuple(sorted(functions)), held, len(functions)))
        self.assertEqual(list(desk), sorted(functions))
        self.assertEqual({name: desk.number(name) for name in functions}, {name: plain.number(name) for name in functions})
        self.assertTrue(all(desk[name] == function for name, function in functions.items()))

    def check_more(self, desk, plain, source):
        more = "".join(source.choice(plain.letters) for _ in range(source.randrange(4)))
        numbers = desk.numbers(more)
        self.assertEqual(list(numbers.items()), [(name, plain.number(name, more)) for name in sorted(plain.now[1])])
        depth = source.choice([1, 2, 3, 5])
        self.assertEqual(desk.table(depth), Table.of(Word.of(plain.letters, plain.now[0]), depth, prime=plain.prime))
        for name, function in plain.now[1].items():
            if isinstance(function, Reader):
                state = told(function, plain.now[0])
                ways = [text for text in all_texts(plain.letters, 6 if plain.letters != "abc" else 4) if told(function, text, state) in function.yes]
                if ways:
                    self.assertEqual(desk.way(name), ways[0])
                elif len(function) <= 3:
                    self.assertIsNone(desk.way(name))
            else:
                self.raised(InvalidOperation, desk.way, name)

    def done(self, call, *values, **named):
        try:
            return call(*values, **named)
        except (CountError, UnknownName, TooMany, NothingToUndo) as error:
            return type(error).__name__

    def one_call(self, desk, plain, source):
        """One drawn call at both desks, with equal answers."""
        kind = source.choice(["push", "push", "lead", "repeat", "watch", "watch", "drop", "hold", "release", "undo", "undo", "redo"])
        name = source.choice(NAMES)
        text = plain.now[0]
        if kind in ("push", "lead"):
            more = "".join(source.choice(plain.letters) for _ in range(source.randrange(4)))
            return self.done(getattr(desk, kind), more), plain.move(text + more if kind == "push" else more + text)
        if kind == "repeat":
            number = source.choice([0, 1, 2, 3]) if len(text) < 60 else source.choice([0, 1])
            return self.done(desk.repeat, number), plain.move(text * number)
        if kind == "watch":
            function = some_function(plain.letters, plain.prime, source)
            return self.done(desk.watch, name, function), plain.watch(name, function)
        if kind == "drop":
            return self.done(desk.drop, name), plain.drop(name)
        if kind in ("hold", "release"):
            return self.done(getattr(desk, kind), name), plain.hold(name, kind == "hold")
        many = source.choice([0, 1, 1, 2, 3, 9])
        if kind == "undo":
            return self.done(desk.undo, many=many), plain.turn(-many)
        return self.done(desk.redo, many=many), plain.turn(many)

    def test_drawn_calls(self):
        for letters, prime in itertools.product(("a", "ab", "abc"), PRIMES):
            source = random.Random(f"{letters} {prime} desk")
            desk, plain = Desk(letters, prime=prime), Plain(letters, prime)
            for step in range(160):
                before = desk.twin()
                one, other = self.one_call(desk, plain, source)
                self.assertEqual(one, other)
                self.check_alike(desk, plain)
                if isinstance(one, str):
                    # a call that raises changes nothing, also of what can be undone
                    self.assertTrue(desk == before)
                    self.assertEqual(desk.twin().undo(many=0), before.undo(many=0))
                if step % 8 == 0:
                    self.check_more(desk, plain, source)
                if step % 20 == 7:
                    self.check_twin(desk, plain, source)

    def check_twin(self, desk, plain, source):
        """A twin goes on by itself, and so does a trial, which is taken back."""
        other, copy = desk.twin(), Plain(plain.letters, plain.prime)
        copy.rows, copy.at = list(plain.rows), plain.at
        for _ in range(6):
            one, two = self.one_call(other, copy, source)
            self.assertEqual(one, two)
        self.check_alike(other, copy)
        self.check_alike(desk, plain)
        tried = Plain(plain.letters, plain.prime)
        tried.rows, tried.at = list(plain.rows), plain.at
        with desk.trial() as same:
            self.assertIs(same, desk)
            for _ in range(6):
                one, two = self.one_call(desk, tried, source)
                self.assertEqual(one, two)
            self.check_alike(desk, tried)
        self.check_alike(desk, plain)
        self.assertEqual(desk.twin().undo(many=plain.at), 0)
        self.assertEqual(desk.twin().redo(many=len(plain.rows) - 1 - plain.at), len(plain.rows) - 1)


class DeskTest(Case):
    def test_constant(self):
        self.assertEqual(module.MAX_WATCHED, 8)

    def test_new_desk(self):
        for letters, prime in itertools.product(("a", "ab", "bxz"), PRIMES):
            desk = Desk(letters, prime=prime)
            self.assertEqual((desk.letters, desk.prime, desk.size, desk.names, desk.held, len(desk)), (letters, prime, 0, (), (), 0))
            self.assertEqual((list(desk), desk.numbers(letters), desk.undo(many=0), desk.redo(many=0)), ([], {}, 0, 0))
            self.assertEqual(str(desk), f"desk of 0 functions over {letters}")
            self.assertEqual([desk.table(depth) for depth in range(1, 6)], [Table.unit(letters, depth, prime=prime) for depth in range(1, 6)])

    def test_eight_functions(self):
        desk = Desk("ab")
        for name in "hgfedcba":
            self.assertIsNone(desk.watch(name, AB))
        self.assertEqual(desk.names, tuple("abcdefgh"))
        self.too_many(8, desk.watch, "i", AB)
        self.raised(InvalidOperation, desk.watch, "a", AB)
        self.raised(InvalidOperation, desk.watch, "i", Sum("a", {}))
        self.raised(InvalidName, desk.watch, "", AB)
        desk.drop("c")
        self.assertIsNone(desk.watch("i", EVEN))
        self.assertEqual((desk.names, str(desk), "c" in desk, "i" in desk), (tuple("abdefghi"), "desk of 8 functions over ab", False, True))

    def test_what_can_be_watched(self):
        for prime in PRIMES:
            desk = Desk("ab", prime=prime)
            for at, function in enumerate([Sum("ab", {}, prime=prime), Sum("ab", {"": 1}, prime=prime), Sum("ab", {"ababa": 1}, prime=prime), EVEN]):
                self.assertIsNone(desk.watch("abcd"[at], function))
                self.assertTrue(desk["abcd"[at]] == function)
            wrong = [Sum("ab", {"ababab": 1}, prime=prime), Sum("a", {"a": 1}, prime=prime), Sum("abc", {"a": 1}, prime=prime), some_reader("a", 2, 1)]
            wrong += [Sum("ab", {"a": 1}, prime=other) for other in PRIMES if other != prime]
            wrong += [value for value in every_kind() if not isinstance(value, (Sum, Reader))] + [some_reader("abc", 2, 1)]
            for function in wrong:
                self.raised(InvalidOperation, desk.watch, "e", function)
                self.raised(InvalidName, desk.watch, "E", function)

    def test_known_names(self):
        desk = Desk("ab", prime=2)
        desk.watch("even", EVEN)
        for value in every_kind():
            self.assertIs(value in desk, False)
            for call in (desk.number, desk.way, desk.drop, desk.hold, desk.release, desk.__getitem__):
                self.assertIs(self.raised(UnknownName, call, value).name, value)
        self.assertIs("even" in desk, True)

    def test_far_texts(self):
        for prime in PRIMES:
            desk = Desk("ab", prime=prime)
            desk.watch("even", EVEN)
            desk.watch("pairs", Sum("ab", {"ab": 1, "aab": 2}, prime=prime))
            desk.push("aab")
            desk.repeat(HUNDRED)
            desk.lead("ba")
            desk.repeat(10 ** 30)
            desk.push("b")
            word = Table.of(Word.of("ab", "ba"), 5) * Table.of(Word.of("ab", "aab"), 5).power(HUNDRED)
            word = word.power(10 ** 30) * Table.of(Word.of("ab", "b"), 5)
            table = word if prime is None else word.modulo(prime)
            self.assertEqual([desk.table(depth) for depth in range(1, 6)], [table.cut(depth) for depth in range(1, 6)])
            self.assertEqual(desk.size, (3 * HUNDRED + 2) * 10 ** 30 + 1)
            self.assertEqual(desk.number("pairs"), table.number(desk["pairs"]))
            self.assertEqual(desk.number("even"), 1 - word["a"] % 2)
            # a reader that is watched later is led by the text, too
            for seed, many in enumerate((2, 9, 60)):
                reader = some_reader("ab", many, seed)
                desk.watch("late", reader)
                early = Desk("ab", prime=prime)
                early.watch("late", reader)
                early.push("aab")
                early.repeat(HUNDRED)
                early.lead("ba")
                early.repeat(10 ** 30)
                early.push("b")
                self.assertEqual((desk.number("late"), desk.way("late")), (early.number("late"), early.way("late")))
                self.assertEqual([desk.numbers(text)["late"] for text in all_texts("ab", 4)], [early.numbers(text)["late"] for text in all_texts("ab", 4)])
                desk.drop("late")

    def test_very_many_letters(self):
        desk = Desk("ab", prime=2)
        desk.watch("pairs", AB.modulo(2))
        desk.push("a")
        desk.hold("pairs")
        for _ in range(3):
            desk.repeat(HUNDRED)
        desk.repeat(HUNDRED - 1)
        size = 10 ** 400 - 10 ** 300
        self.assertEqual((desk.size, desk.table(1).entries, desk.number("pairs")), (size, (0, 0), 0))
        self.assertEqual(desk.numbers("ab"), {"pairs": 1})
        for number in (2, HUNDRED):
            self.too_many(10 ** 400, desk.repeat, number)
        self.assertEqual(desk.size, size)
        # first the letters, then what is held
        near = Desk("ab")
        near.watch("all", Sum("ab", {"a": 1, "b": 1}))
        # 10 ** 400 - 1 letters: 9 times all powers of ten
        near.push("a")
        near.repeat(HUNDRED)
        near.push("a")
        near.repeat(HUNDRED - 1)
        one = near.size
        self.assertEqual(one, 10 ** 200 - 1)
        near.repeat(HUNDRED)
        near.repeat(HUNDRED)
        near.undo(many=2)
        near.hold("all")
        self.raised(InvalidOperation, near.push, "a")
        self.raised(InvalidOperation, near.repeat, 2)
        self.raised(InvalidOperation, near.repeat, 0)
        self.assertIsNone(near.repeat(1))
        self.assertIsNone(near.push(""))
        near.undo(many=3)
        near.repeat(HUNDRED)
        near.repeat(HUNDRED)
        near.hold("all")
        self.assertEqual(near.size, 10 ** 400 - 10 ** 200)
        self.raised(InvalidOperation, near.lead, "a")
        self.too_many(10 ** 400, near.repeat, 2)
        self.bad_number(None, near.repeat, None)
        self.raised(InvalidText, near.push, "c")
        near.release("all")
        near.lead("ab")
        self.assertEqual(near.number("all"), 10 ** 400 - 10 ** 200 + 2)

    def test_all_letters_but_one(self):
        """A text of 10 ** 400 - 1 letters, to which no letter more can be put."""
        desk = Desk("a")
        desk.push("a" * 9)
        for _ in range(399):
            desk.repeat(10)
            desk.push("a" * 9)
        self.assertEqual(desk.size, 10 ** 400 - 1)
        for call, value in ((desk.push, "a"), (desk.lead, "a"), (desk.repeat, 2), (desk.repeat, HUNDRED)):
            self.too_many(10 ** 400, call, value)
        self.assertEqual(desk.table(2).entries, (10 ** 400 - 1, (10 ** 400 - 1) * (10 ** 400 - 2) // 2))
        for call, value in ((desk.push, ""), (desk.lead, ""), (desk.repeat, 1), (desk.repeat, 0)):
            self.assertIsNone(call(value))
        self.assertEqual((desk.size, desk.undo(many=0)), (0, 803))


class HeldTest(Case):
    def test_held_numbers(self):
        desk = Desk("ab", prime=3)
        desk.watch("even", EVEN)
        desk.watch("pairs", AB.modulo(3))
        desk.push("aab")
        self.assertEqual((desk.number("even"), desk.number("pairs")), (1, 2))
        self.assertIsNone(desk.hold("pairs"))
        for call, value in ((desk.push, "b"), (desk.lead, "a"), (desk.repeat, 0), (desk.repeat, 2)):
            before = desk.twin()
            self.raised(InvalidOperation, call, value)
            self.assertTrue(desk == before)
        self.assertEqual((desk.size, desk.undo(many=0), desk.held), (3, 4, ("pairs",)))
        # what leaves the number as it is can be done
        for call, value in ((desk.push, "a"), (desk.lead, "b"), (desk.repeat, 1), (desk.push, "")):
            self.assertIsNone(call(value))
        self.assertEqual((desk.number("pairs"), desk.number("even"), desk.size), (2, 0, 5))
        self.raised(InvalidOperation, desk.hold, "pairs")
        self.raised(InvalidOperation, desk.drop, "pairs")
        self.raised(InvalidOperation, desk.release, "even")
        self.raised(UnknownName, desk.release, "odd")
        desk.hold("even")
        self.assertEqual(desk.held, ("even", "pairs"))
        self.raised(InvalidOperation, desk.push, "a")
        self.assertIsNone(desk.push("aaaaaa"))
        desk.release("pairs")
        self.raised(InvalidOperation, desk.push, "ba")
        self.assertIsNone(desk.push("baa"))
        self.assertEqual(desk.held, ("even",))
        desk.release("even")
        self.assertIsNone(desk.repeat(0))
        self.assertEqual((desk.numbers(""), desk.held), ({"even": 1, "pairs": 0}, ()))

    def test_behind_all_other_errors(self):
        desk = Desk("ab")
        desk.watch("all", Sum("ab", {"a": 1, "b": 1}))
        desk.push("ab")
        desk.hold("all")
        for call in (desk.push, desk.lead):
            for value in TEXT_SLOT.wrong:
                self.raised(InvalidText, call, value)
        for value in (-1, HUNDRED + 1, True, None, "2"):
            self.bad_number(value, desk.repeat, value)
        for value in (0, 2, HUNDRED):
            self.raised(InvalidOperation, desk.repeat, value)

    def test_dropped_and_watched_again(self):
        desk = Desk("ab")
        desk.watch("even", EVEN)
        desk.hold("even")
        self.raised(InvalidOperation, desk.drop, "even")
        desk.release("even")
        desk.drop("even")
        self.raised(UnknownName, desk.hold, "even")
        desk.watch("even", AB)
        self.assertEqual((desk.number("even"), desk.held, desk["even"] == AB), (0, (), True))


class UndoTest(Case):
    def test_many(self):
        desk = Desk("ab")
        for text in ("a", "b", "ab", "", "bb"):
            desk.push(text)
        self.assertEqual([desk.undo(many=0), desk.undo(), desk.undo(many=2), desk.size, desk.redo(), desk.size], [5, 4, 2, 2, 3, 4])
        for many in (4, 5, 10 ** 199):
            self.assertEqual(self.raised(NothingToUndo, desk.undo, many=many).many, many)
        for many in (3, 4, 10 ** 199):
            self.assertEqual(self.raised(NothingToUndo, desk.redo, many=many).many, many)
        self.assertEqual([desk.redo(many=2), desk.redo(many=0), desk.size], [5, 5, 6])
        self.assertEqual(self.raised(NothingToUndo, desk.redo).many, 1)
        self.assertEqual([desk.undo(many=5), desk.size, desk.undo(many=0)], [0, 0, 0])
        self.assertEqual(self.raised(NothingToUndo, desk.undo).many, 1)
        self.assertEqual([desk.redo(many=5), desk.size], [5, 6])

    def test_what_ends_redoing(self):
        calls = [("push", "a"), ("lead", ""), ("repeat", 1), ("watch", "two", AB), ("drop", "one"), ("hold", "one"), ("release", "kept")]
        for name, *values in calls:
            desk = Desk("ab")
            desk.watch("one", AB)
            desk.watch("kept", EVEN)
            desk.hold("kept")
            desk.push("b")
            desk.push("b")
            desk.undo()
            # calls that raise, and those that only tell, do not end it
            self.raised(InvalidText, desk.push, "c")
            self.raised(InvalidOperation, desk.push, "a")
            self.raised(InvalidOperation, desk.watch, "one", AB)
            self.raised(InvalidOperation, desk.drop, "kept")
            self.raised(InvalidOperation, desk.hold, "kept")
            self.raised(InvalidOperation, desk.release, "one")
            self.raised(UnknownName, desk.drop, "odd")
            desk.numbers("a"), desk.number("one"), desk.table(2), desk.way("kept"), desk.twin(), desk.undo(many=0), desk.redo(many=0)
            self.assertEqual([desk.redo(), desk.undo()], [5, 4])
            if name != "push":
                self.assertIsNone(getattr(desk, name)(*values))
                self.raised(NothingToUndo, desk.redo)
                self.assertEqual(desk.undo(many=0), 5)
            else:
                self.assertIsNone(desk.push("aa"))
                self.raised(NothingToUndo, desk.redo)

    def test_all_seven_calls(self):
        desk = Desk("ab")
        states = [desk.twin()]
        for name, *values in (("watch", "one", AB), ("push", "ab"), ("lead", "a"), ("repeat", 10 ** 50), ("hold", "one"), ("watch", "even", EVEN),
                              ("release", "one"), ("drop", "one"), ("push", "b"), ("repeat", 0), ("push", "ab"), ("repeat", 3)):
            self.assertIsNone(getattr(desk, name)(*values))
            states.append(desk.twin())
        for at in range(len(states) - 2, -1, -1):
            self.assertEqual(desk.undo(), at)
            self.assertTrue(desk == states[at])
            self.assertEqual((desk.names, desk.held, desk.size), (states[at].names, states[at].held, states[at].size))
            self.assertEqual(desk.numbers("ab"), states[at].numbers("ab"))
        for at in range(1, len(states)):
            self.assertEqual(desk.redo(), at)
            self.assertTrue(desk == states[at])


class Failing(Exception):
    """What a block raises."""


class TrialsTest(Case):
    def desk(self):
        desk = Desk("ab", prime=2)
        desk.watch("even", EVEN)
        desk.push("ab")
        desk.push("b")
        desk.undo()
        return desk

    def check_as_before(self, desk):
        self.assertEqual((desk.size, desk.names, desk.held, desk.undo(many=0)), (2, ("even",), (), 2))
        self.assertEqual((desk.twin().redo(), desk.twin().undo(many=2)), (3, 0))
        self.assertTrue(desk == self.desk())

    def test_trials_within_trials(self):
        desk = self.desk()
        with desk.trial() as same:
            self.assertIs(same, desk)
            same.push("a")
            with desk.trial() as inner:
                self.assertIs(inner, desk)
                inner.undo(many=3)
                inner.push("bbbb")
                inner.watch("pairs", AB.modulo(2))
                self.assertEqual((desk.size, len(desk)), (4, 1))
            self.assertEqual((desk.size, desk.undo(many=0), desk.names), (3, 3, ("even",)))
            self.raised(NothingToUndo, desk.redo)
            self.assertEqual(desk.during(lambda some: (some.repeat(5), some.hold("even"), some.size)), (None, None, 15))
            self.assertEqual((desk.size, desk.held), (3, ()))
        self.check_as_before(desk)

    def test_errors_leave_blocks(self):
        desk = self.desk()
        with self.assertRaises(Failing):
            with desk.trial():
                desk.push("aaa")
                desk.hold("even")
                raise Failing
        self.check_as_before(desk)
        with self.assertRaises(InvalidText):
            with desk.trial() as same:
                same.drop("even")
                with desk.trial():
                    same.push("abba")
                    same.push("c")
        self.check_as_before(desk)

        def fails(some):
            some.repeat(7)
            raise Failing
        self.assertRaises(Failing, desk.during, fails)
        self.check_as_before(desk)

    def test_one_trial_twice(self):
        desk = self.desk()
        trial = desk.trial()
        desk.push("ab")
        with trial:
            desk.push("ab")
            with trial as same:
                same.push("ab")
                self.assertEqual(desk.size, 8)
            self.assertEqual(desk.size, 6)
        # the desk is as it was at the beginning of the block, not as it was when the block was made
        self.assertEqual(desk.size, 4)
        with trial:
            desk.undo(many=3)
        self.assertEqual((desk.size, desk.undo()), (4, 2))

    def test_during(self):
        desk = self.desk()
        self.assertEqual(desk.during(lambda same: same.push("b")), None)
        self.assertEqual(desk.during(lambda same: (same is desk, same.undo(many=2), same.names)), (True, 0, ()))
        self.assertTrue(desk.during(lambda same: same.twin()) == desk)
        other = desk.during(lambda same: (same.push("ab"), same.twin())[1])
        self.assertEqual((other.size, desk.size, other.undo(), other.undo(many=2)), (4, 2, 2, 0))
        self.check_as_before(desk)


class TwinsTest(Case):
    def test_twins(self):
        desk = Desk("ab")
        desk.watch("one", AB)
        desk.push("ab")
        desk.push("b")
        desk.undo()
        other = desk.twin()
        self.assertTrue(other == desk)
        self.assertIsNot(other, desk)
        other.push("aa")
        self.raised(NothingToUndo, other.redo)
        self.assertEqual((desk.redo(), desk.size, other.size), (3, 3, 4))
        desk.hold("one")
        self.assertEqual((other.held, other.undo(many=3), other.names, desk.names), ((), 0, (), ("one",)))
        self.assertEqual(other.redo(many=3), 3)

    def test_no_state_is_shared(self):
        weights = {"ab": 1}
        total = Sum("ab", weights)
        desk = Desk("ab")
        desk.watch("one", total)
        weights["ab"] = 5
        desk["one"].weights["ab"] = 7
        desk.numbers("ab")["one"] = 9
        desk.push("ab")
        self.assertEqual((desk.number("one"), desk.numbers("")), (1, {"one": 1}))


class EqualityTest(Case):
    def test_unlike_ways_to_the_same_text(self):
        def make():
            desk = Desk("ab", prime=2)
            desk.watch("even", EVEN)
            desk.push("abab")
            desk.hold("even")
            return desk

        def other_ways():
            desk = Desk("ab", prime=2)
            desk.push("b")
            desk.lead("a")
            desk.repeat(2)
            desk.watch("x", EVEN)
            desk.drop("x")
            desk.watch("even", Reader("ab", {"a": (1, 0), "b": (0, 1)}, (0,)))
            desk.hold("even")
            return desk
        self.assertTrue(make() == other_ways())
        self.assertFalse(make() != other_ways())
        unlike = [make() for _ in range(8)]
        unlike[0].release("even")
        unlike[1].release("even")
        unlike[1].drop("even")
        unlike[2].watch("more", AB.modulo(2))
        unlike[3].push("b")
        unlike[4].release("even")
        unlike[4].drop("even")
        unlike[4].watch("even", ~EVEN)
        unlike[4].hold("even")
        unlike[5].undo()
        unlike[6].repeat(0)
        unlike[6].push("baab")
        unlike[7].repeat(0)
        unlike[7].push("aabb")
        exact, letters = Desk("ab"), Desk("abc", prime=2)
        self.check_equality(make, [*unlike, exact, letters])
        new = [Desk(letters, prime=prime) for letters in ("ab", "abc", "ac", "a") for prime in (None, 2, 3)]
        for one, two in itertools.product(range(len(new)), repeat=2):
            self.assertIs(new[one] == new[two], one == two)
        for one, two in itertools.combinations(range(8), 2):
            self.assertIs(unlike[one] == unlike[two], (one, two) == (0, 5))

    def test_exact_counts_of_three_letters(self):
        """Texts with the same counts of at most three letters are not told apart, all others are."""
        texts = all_texts("ab", 8)
        desks = {}
        for text in texts:
            desk = Desk("ab", prime=2)
            desk.push(text)
            key = tuple(count_of(pattern, text) for pattern in all_texts("ab", 3))
            desks.setdefault(key, []).append(desk)
        self.assertTrue(any(len(rows) > 1 for rows in desks.values()))
        firsts = [rows[0] for rows in desks.values()]
        self.assertTrue(all(rows[0] == other for rows in desks.values() for other in rows))
        for one, two in itertools.combinations(firsts[:120], 2):
            self.assertFalse(one == two)
        # counts that are alike modulo 2, and exactly unlike
        one, two = Desk("a", prime=2), Desk("a", prime=2)
        one.push("a" * 8)
        self.assertFalse(one == two)
        self.assertEqual(one.table(3), two.table(3))


class DeskErrorsTest(Case):
    def test_slots(self):
        self.check_slots(Desk, [LETTERS_SLOT, PRIME_SLOT])
        for name in ("push", "lead", "numbers"):
            self.check_slots(getattr(Desk("ab"), name), [TEXT_SLOT])
        numbers = wrong_ones(lambda value: is_plain_integer(value) and 0 <= value <= HUNDRED) + [-1, HUNDRED + 1]
        self.check_slots(Desk("ab").repeat, [Slot(3, numbers, InvalidNumber)])
        self.check_slots(Desk("ab").table, [DEPTH_SLOT])
        many = Slot(0, wrong_ones(lambda value: is_plain_integer(value) and value >= 0) + [-1], InvalidNumber, keyword="many")
        self.check_slots(Desk("ab").undo, [many])
        self.check_slots(Desk("ab").redo, [many])
        names = [value for value in every_kind() if not (isinstance(value, str) and value.islower() and value.isascii() and value.isalpha()
                                                         and len(value) <= 8)]
        functions = [value for value in every_kind() if not isinstance(value, (Sum, Reader))]
        self.check_slots(Desk("ab").watch, [Slot("one", names, InvalidName), Slot(AB, functions, InvalidOperation)])
        self.raised(InvalidLetters, Desk, "ba", prime=4)

    def test_nothing_is_changed(self):
        desk = Desk("ab", prime=2)
        desk.watch("even", EVEN)
        desk.push("ab")
        desk.push("a")
        desk.undo()
        for value in every_kind():
            for call in (desk.push, desk.lead, desk.repeat, desk.drop, desk.hold, desk.release):
                before = desk.twin()
                try:
                    call(value)
                except (CountError, InvalidNumber, UnknownName):
                    self.assertTrue(desk == before)
                    self.assertEqual((desk.undo(many=0), desk.twin().redo()), (2, 3))
                else:
                    desk.undo()
                    desk.redo()
                    desk = before
        self.assertEqual(desk.undo(many=0), 2)
