"""[13.1] and stage 13: groups of turns."""

import itertools
import random

from tests.helpers import Case, Slot, all_texts, every_kind, is_plain_integer, is_some_letters, wrong_ones
from tests.test_least import READER_SLOT, some_turning
from tests.test_readers import samples
from tests.test_tables import WORD_SLOT
from whatcounts.errors import InvalidLetters, InvalidNumber, InvalidOperation, InvalidWord, NotTurning
from whatcounts.group import turns as module
from whatcounts.group.turns import Group, joint, spanned, turn_order, undone_turn
from whatcounts.reader.least import first_merge, least_reader
from whatcounts.reader.readers import Reader
from whatcounts.word.words import Word

LETTERS_SLOT = Slot("ab", wrong_ones(is_some_letters), InvalidLetters)
ENDS = Reader("ab", {"a": (1, 1), "b": (0, 0)}, (1,))
THREE = Group("ab", {"a": (1, 0, 2), "b": (0, 2, 1)})
FOUR = Group("ab", {"a": (1, 0, 3, 2), "b": (0, 2, 1, 3)})
SIX = Group("a", {"a": (1, 2, 3, 4, 5, 0)})


def cycles(points, *rows):
    """The turn that leads each point of a row to the next one."""
    turn = list(range(points))
    for row in rows:
        for at, point in enumerate(row):
            turn[point] = row[(at + 1) % len(row)]
    return tuple(turn)


def some_group(letters, points, seed):
    source = random.Random(f"{letters} {points} {seed}")
    return Group(letters, {letter: tuple(source.sample(range(points), points)) for letter in letters})


def then(one, other):
    return tuple(other[one[point]] for point in range(len(one)))


def back(turn):
    return tuple(turn.index(point) for point in range(len(turn)))


def order(turn):
    many, led = 1, turn
    while led != tuple(range(len(turn))):
        many, led = many + 1, then(led, turn)
    return many


def told_turn(group, signs):
    """Where the signs lead each point, one after the other."""
    led = []
    for start in range(len(group)):
        point = start
        for sign in signs:
            move = group.moves[sign.lower()]
            point = move[point] if sign.islower() else move.index(point)
        led.append(point)
    return tuple(led)


def told_texts(group):
    """The first text for each turn, by texts of growing length until none of a length has a new turn."""
    found, level = {}, [("", tuple(range(len(group))))]
    while level:
        new = []
        for text, turn in level:
            if turn not in found:
                found[turn] = text
                new.append((text, turn))
        level = [(text + letter, then(turn, group.moves[letter])) for text, turn in new for letter in group.letters]
    return found


def closure(points, turns):
    """All turns that are made of some, by multiplying all that are there with all of them."""
    found = {tuple(range(points))}
    todo = list(found)
    while todo:
        turn = todo.pop()
        for other in turns:
            led = then(turn, other)
            if led not in found:
                found.add(led)
                todo.append(led)
    return tuple(sorted(found))


def small_groups():
    yield from (THREE, FOUR, SIX, Group("a", {"a": (0,)}), Group("ab", {"a": (0, 1), "b": (0, 1)}))
    for letters, points in (("a", 5), ("a", 12), ("ab", 3), ("ab", 4), ("abc", 3), ("ab", 5), ("abc", 4)):
        for seed in range(3):
            yield some_group(letters, points, seed)


class GroupTest(Case):
    def test_constants(self):
        self.assertEqual((module.MAX_POINTS, module.MAX_TURNS), (60, 2000))

    def test_properties(self):
        group = Group("ab", {"b": (0, 2, 1), "a": (1, 0, 2)})
        self.assertEqual((group.letters, len(group), str(group)), ("ab", 3, "group of 3 points over ab"))
        self.assertEqual((group.moves, list(group.moves)), ({"a": (1, 0, 2), "b": (0, 2, 1)}, ["a", "b"]))
        self.check_not_iterable(group)

    def test_equality(self):
        others = [Group("ab", {"a": (1, 0, 2), "b": (0, 1, 2)}), Group("ac", {"a": (1, 0, 2), "c": (0, 2, 1)}),
                  Group("a", {"a": (1, 0, 2)}), Group("ab", {"a": (0, 2, 1), "b": (1, 0, 2)}), (1, 0, 2),
                  Reader("ab", {"a": (1, 0, 2), "b": (0, 2, 1)}, ())]
        self.check_equality(lambda: Group("ab", {"a": (1, 0, 2), "b": (0, 2, 1)}), others)

    def test_no_state_is_shared(self):
        moves = {"a": (1, 0), "b": (0, 1)}
        group = Group("ab", moves)
        moves["a"] = (0, 1)
        group.moves["b"] = (1, 0)
        group.moves.clear()
        self.assertEqual(group.moves, {"a": (1, 0), "b": (0, 1)})
        for name, value in (("letters", "a"), ("moves", {})):
            with self.assertRaises(AttributeError):
                setattr(group, name, value)

    def test_groups_of_readers(self):
        turning = [some_turning(letters, many, seed) for letters in ("a", "ab", "abc") for many in (1, 3, 6) for seed in range(3)]
        for reader in [*samples(), *turning]:
            merge = first_merge(reader)
            if merge is None:
                group = Group.of(reader)
                self.assertEqual((group.letters, group.moves), (reader.letters, least_reader(reader).moves))
            else:
                self.assertEqual(self.raised(NotTurning, Group.of, reader).letter, merge[0])
        # states that do not count: one to which no text leads, and two with the same answers
        wide = Reader("ab", {"a": (1, 0, 1, 0), "b": (2, 1, 0, 0)}, (0, 2))
        self.assertEqual(Group.of(wide), Group("ab", {"a": (1, 0), "b": (0, 1)}))
        self.assertEqual(self.raised(NotTurning, Group.of, ENDS).letter, "a")
        late = Reader("abc", {"a": (1, 2, 0), "b": (0, 1, 2), "c": (0, 0, 2)}, (0,))
        self.assertEqual(self.raised(NotTurning, Group.of, late).letter, "c")
        many = 60
        cycle = Reader("a", {"a": tuple(range(1, many)) + (0,)}, (7,))
        self.assertEqual(len(Group.of(cycle).all_turns()), 60)

    def test_turns_of_words(self):
        for group in small_groups():
            letters = group.letters
            signs = letters + letters.upper()
            source = random.Random(str(group))
            for size in (0, 1, 2, 3, 9, 30):
                text = "".join(source.choice(signs) for _ in range(size))
                turn = group.turn(Word.of(letters, text))
                self.assertEqual(turn, told_turn(group, text))
                self.assertEqual(group.order(Word.of(letters, text)), order(turn))

    def test_great_exponents(self):
        number = 10 ** 30
        for group in small_groups():
            letters = group.letters
            for exponent in (number, -number, number + 7, -number - 1):
                word = Word(letters, ((letters[0], exponent), (letters[-1], 3)))
                turn = group.turn(word)
                once = group.moves[letters[0]]
                signs = letters[0] * (exponent % order(once)) + letters[-1] * 3
                self.assertEqual(turn, told_turn(group, signs))
                self.assertEqual(group.order(word), order(turn))
        wide = Group("ab", {"a": cycles(60, range(31), range(31, 60)), "b": cycles(60, (0, 31))})
        self.assertEqual(wide.turn(Word("ab", (("a", 31 * 29 * 10 ** 25 + 2),)))[:3], (2, 3, 4))
        self.assertEqual((wide.order(Word.of("ab", "a")), wide.order(Word.of("ab", "ab"))), (31 * 29, 60))
        self.assertEqual(wide.order(Word("ab", (("a", 29 * 10 ** 28),))), 31)

    def test_all_turns(self):
        for group in small_groups():
            told = told_texts(group)
            self.assertEqual(group.all_turns(), tuple(sorted(told)))
            self.assertEqual(group.all_turns(), closure(len(group), list(group.moves.values())))

    def test_first_texts(self):
        for group in small_groups():
            told = told_texts(group)
            for turn in itertools.islice(itertools.permutations(range(min(len(group), 5))), 130):
                turn = turn + tuple(range(len(turn), len(group)))
                self.assertEqual(group.text_for(turn), told.get(turn))
                self.assertIs(turn in group, turn in told)
            for turn, text in told.items():
                self.assertEqual(group.text_for(turn), text)
                self.assertIs(turn in group, True)
        for text in all_texts("ab", 6):
            turn = told_turn(FOUR, text)
            first = FOUR.text_for(turn)
            self.assertLessEqual((len(first), first), (len(text), text))
            self.assertEqual(told_turn(FOUR, first), turn)

    def test_values(self):
        some = [(0, 1, 2), [0, 1, 2], (False, True, 2), (0, True, 2), (0, 1), (0, 1, 2, 3), (0, 0, 2), (0, 1, 3), "012", (0, 1, None),
                (0, 1, (2,)), (-1, 0, 1), (0, 1, 10 ** 250), ((0, 1, 2),), (0, 1, "2")]
        for value in [*every_kind(), *some]:
            right = isinstance(value, tuple) and list(map(repr, value)) == ["0", "1", "2"]
            self.assertIs(value in THREE, right, str(value)[:80])
            self.assertEqual(THREE.text_for(value), "" if right else None)
        self.assertIs((1, 2, 0, 3) in FOUR, False)


class LimitsTest(Case):
    def test_points(self):
        for points in (1, 2, 60):
            row = tuple(range(points))
            self.assertEqual(len(Group("ab", {"a": row, "b": row[::-1]})), points)
            self.assertEqual(turn_order(row), 1)
        row = tuple(range(61))
        self.raised(InvalidOperation, Group, "a", {"a": row})
        for call in (undone_turn, turn_order):
            self.raised(InvalidOperation, call, row)
            self.raised(InvalidOperation, call, ())
        self.raised(InvalidOperation, joint, row, row)

    def test_two_thousand_turns(self):
        group = Group("abc", {"a": cycles(60, range(20)), "b": cycles(60, range(20, 30)), "c": cycles(60, range(30, 40))})
        self.assertEqual(len(group.all_turns()), 2000)
        last = tuple(cycles(60, range(20)).index(point) for point in range(60))
        self.assertEqual(group.text_for(last), "a" * 19)
        self.assertIs(last in group, True)
        self.assertIs(tuple(range(59, -1, -1)) in group, False)
        self.assertEqual(spanned(60, tuple(group.moves.values())), group.all_turns())

    def test_too_many_turns(self):
        more = Group("abc", {"a": cycles(60, range(23)), "b": cycles(60, range(23, 52)), "c": cycles(60, (53, 54, 55))})
        self.assertEqual(more.order(Word.of("abc", "abc")), 2001)
        for group in (more, some_group("ab", 60, 1), some_group("ab", 7, 1)):
            self.too_many(2000, group.all_turns)
            for value in (tuple(range(len(group))), (1, 0), None, "a", [], (True,)):
                self.too_many(2000, group.text_for, value)
                self.too_many(2000, lambda: value in group)
            self.too_many(2000, spanned, len(group), tuple(group.moves.values()))
        self.assertEqual(len(Group("ab", {"a": cycles(6, (0, 1)), "b": cycles(6, range(6))}).all_turns()), 720)


class TurnsTest(Case):
    def test_turns(self):
        for points in (1, 2, 3, 4):
            turns = list(itertools.permutations(range(points)))
            for one in turns:
                self.assertEqual(undone_turn(one), back(one))
                self.assertEqual(turn_order(one), order(one))
                for other in turns:
                    self.assertEqual(joint(one, other), then(one, other))
        wide = cycles(60, range(3), range(3, 8), range(8, 15), range(15, 26), range(26, 39), range(39, 41))
        self.assertEqual(turn_order(wide), 3 * 5 * 7 * 11 * 13 * 2)
        self.assertEqual(joint(wide, undone_turn(wide)), tuple(range(60)))

    def test_spanned(self):
        for points, many in ((1, 1), (2, 1), (3, 1), (3, 2), (4, 1), (4, 2), (4, 3), (5, 2), (6, 1), (6, 3)):
            for seed in range(4):
                source = random.Random(f"{points} {many} {seed}")
                turns = tuple(tuple(source.sample(range(points), points)) for _ in range(many))
                self.assertEqual(spanned(points, turns), closure(points, turns))
        for points in (1, 2, 60):
            self.assertEqual(spanned(points, ()), (tuple(range(points)),))
        self.assertEqual(spanned(3, ((0, 1, 2), (0, 1, 2))), ((0, 1, 2),))
        every = tuple(itertools.permutations(range(6)))
        self.assertEqual(spanned(6, every), every)
        self.assertEqual(spanned(6, every[::-1]), every)
        self.too_many(2000, spanned, 7, tuple(itertools.permutations(range(7))))

    def test_wrong_turns(self):
        wrong = wrong_ones(lambda value: value in ((0, 1, 2),))
        wrong = [(0, 0), [0, 1], (0, True), (False, 1), (1,), (0, 2), (-1, 0), (0, None), "01", (0, 10 ** 250), ()] + wrong
        slot = Slot((1, 0), wrong, InvalidOperation)
        self.check_slots(undone_turn, [slot])
        self.check_slots(turn_order, [slot])
        self.check_slots(joint, [slot, slot])
        for one, other in (((0, 1), (0,)), ((0,), (1, 0)), ((1, 0, 2), (0, 1)), (tuple(range(60)), tuple(range(59)))):
            self.raised(InvalidOperation, joint, one, other)
            self.raised(InvalidOperation, joint, other, one)
        self.assertEqual(joint((0,), (0,)), (0,))


class GroupErrorsTest(Case):
    def wrong_moves(self):
        right = (1, 0)
        rows = [[1, 0], (1, 1), (1, 2), (1, -1), (True, False), (1, False), (1, None), (1, 0, 2), (0,), (), None, "10", (0, 10 ** 250)]
        wrong = [{"a": right, "b": row} for row in rows] + [{"a": row, "b": right} for row in rows]
        wrong += [{"a": right}, {"b": right}, {"a": right, "b": right, "c": right}, {"a": right, "c": right}, {},
                  {"a": (), "b": ()}, {"a": right, 1: right}, {"A": right, "b": right}, {"ab": right, "b": right}]
        return wrong + [{"a": tuple(range(61)), "b": tuple(range(61))}] + wrong_ones(lambda value: False)

    def test_constructor(self):
        self.check_slots(Group, [LETTERS_SLOT, Slot({"a": (1, 0), "b": (0, 1)}, self.wrong_moves(), InvalidOperation)])
        self.check_slots(Group.of, [READER_SLOT])

    def test_words(self):
        for call in (FOUR.turn, FOUR.order):
            self.check_slots(call, [WORD_SLOT])
            for word in (Word("a", ()), Word("ac", ()), Word("abc", (("a", 1),))):
                self.raised(InvalidOperation, call, word)
        for call in (SIX.turn, SIX.order):
            self.raised(InvalidOperation, call, Word("ab", ()))
            self.raised(InvalidWord, call, "a")

    def test_spanned(self):
        points = wrong_ones(lambda value: is_plain_integer(value) and 1 <= value <= 60) + [61, -1]
        wrong = wrong_ones(lambda value: value == ())
        wrong = [[(0, 1, 2)], ((0, 1, 2), (0, 1)), ((0, 1, 2), [0, 1, 2]), ((0, 1, 3),), ((0, True, 2),), (0, 1, 2), ((0, 1),)] + wrong
        self.check_slots(spanned, [Slot(3, points, InvalidNumber), Slot(((1, 0, 2),), wrong, InvalidOperation)])
        self.raised(InvalidOperation, spanned, 2, ((0, 1, 2),))
