"""The examples of the document, as they stand there."""

import unittest

from whatcounts.base import names
from whatcounts.count import counts
from whatcounts.desk import desk
from whatcounts.far import programs
from whatcounts.group import falling, parts, turns
from whatcounts.learn import learned
from whatcounts.pattern import leading
from whatcounts.reader import least, readers
from whatcounts.sums import overlays, sums
from whatcounts.table import tables, truth
from whatcounts.tally import ranks, tallies
from whatcounts.tell import depth, finite, modulo, prime
from whatcounts.text import formats, shell
from whatcounts.word import words

VALUES = r'''
>>> SWAP = Word.of("ab", "abAB")
>>> AB = Sum("ab", {"ab": 1})
>>> CROSS = tally_of(AB)
>>> GROW = Tally("a", (1, 0), {"a": ((1, 1), (1, 0))}, (1, 0))
>>> EVEN = Reader("ab", {"a": (1, 0), "b": (0, 1)}, (0,))
>>> PAIR = Reader("ab", {"a": (1, 0, 3, 2), "b": (0, 2, 1, 3)}, (0, 1))
>>> ENDS = Reader("ab", {"a": (1, 1), "b": (0, 0)}, (1,))
'''

NAMES = r'''
>>> [is_integer(True), is_name("left"), is_letters("ba"), is_text("ab", "aBa"), is_signed("ab", "aBa"), is_pattern("ab", ""), is_prime(5), is_prime(11), is_prime(None)]
[False, True, False, False, True, True, True, False, False]
'''

WORDS = r'''
>>> [SWAP.runs, (SWAP * ~SWAP).runs, Word.of("ab", "abBBa").shortest(), Word("ab", (("a", 2), ("b", 0), ("a", -2))).runs, SWAP.size, SWAP.is_plain(), str(SWAP)]
[(('a', 1), ('b', 1), ('a', -1), ('b', -1)), (), 'aBa', (), 4, False, 'word of 4 runs over ab']
>>> a, b = Word.of("ab", "a"), Word.of("ab", "b")
>>> [a.bracket(b) == SWAP, b.turned(a).shortest(), a.power(-3).runs, (a * b).power(2).shortest()]
[True, 'abA', (('a', -3),), 'abab']
'''

LEADING = r'''
>>> [is_leading("ab", "aab"), is_leading("ab", "abab"), factors("ab", "babaab"), halves("ab", "aabb"), halves("ab", "aabab"), bracket_of("ab", "abb").shortest(), len(patterns_of("ab", 3))]
[True, False, ('b', 'ab', 'aab'), ('a', 'abb'), ('aab', 'ab'), 'abAbaBAB', 14]
>>> [free_patterns("ab", 3), free_patterns("ab", 2, prime=2), free_patterns("a", 5, prime=2), [how_many("ab", size) for size in (1, 2, 3, 4, 5)], how_many("abc", 5)]
[('a', 'b', 'ab', 'aab', 'abb'), ('a', 'b', 'aa', 'ab', 'bb'), ('a', 'aa', 'aaaa'), [2, 1, 2, 3, 6], 48]
'''

COUNTS = r'''
>>> [count(SWAP, "ab"), count(SWAP, "ba"), count(SWAP, "aba"), count(Word("ab", (("a", 10 ** 30), ("b", -2))), "abb") == 3 * 10 ** 30, beginnings(Word.of("ab", "aab"), "aab"), binomial(-2, 3)]
[1, -1, -1, True, (1, 2, 1, 1), -4]
>>> [list(scattered("ab", "abab", "ab")), weight("ab", "ab", lambda text: text.count("a") * text.count("b")), weight("a", "aa", lambda text: len(text) ** 2), weights_up_to("a", 4, lambda text: len(text) ** 2)]
[[(0, 1), (0, 3), (2, 3)], 1, 2, {'a': 1, 'aa': 2}]
'''

SUMS = r'''
>>> some = Sum("ab", {"ab": 1, "": -2, "b": 0})
>>> [some.weights, some.degree, some.at("aabb"), some.at_word(SWAP), some.behind("b").weights, some.ahead("a").weights, some.modulo(2).weights, some.times(3).at("ab"), str(some)]
[{'': -2, 'ab': 1}, 2, 2, -1, {'': -2, 'a': 1, 'ab': 1}, {'': -2, 'b': 1, 'ab': 1}, {'ab': 1}, -3, 'sum of 2 counts over ab']
>>> one, other = Sum("ab", {"a": 1}), Sum("ab", {"b": 1})
>>> [(one * other).weights, (one * one).weights, (one - one).degree, len(one + other), str(AB.modulo(3)), (one * one).modulo(2) == one.modulo(2)]
[{'ab': 1, 'ba': 1}, {'a': 1, 'aa': 2}, None, 2, 'sum of 1 counts over ab, modulo 3', True]
'''

OVERLAYS = r'''
>>> [overlays("ab", "a", "ab"), overlays("ab", "a", "a"), binomial_of(one, 2).weights, binomial_of(one + other, 2).weights, turned_round(AB).weights, renamed(AB, "xz").weights]
[(('ab', 1), ('aab', 2), ('aba', 1)), (('a', 1), ('aa', 2)), {'aa': 1}, {'aa': 1, 'ab': 1, 'ba': 1, 'bb': 1}, {'ba': 1}, {'xz': 1}]
>>> [led(AB, {"a": "ab", "b": "b"}).weights, led(AB, {"x": "ab"}).weights, led(one, {"x": "aab", "y": ""}).weights]
[{'a': 1, 'aa': 1, 'ab': 1}, {'x': 1, 'xx': 1}, {'x': 2}]
'''

TALLIES = r'''
>>> [CROSS.at("aabb"), GROW.at("aaaa"), (CROSS + CROSS).at("ab"), (CROSS * CROSS).at("aab"), CROSS.behind("b").at("aa"), CROSS.ahead("a").at("bb"), CROSS.back().at("ba"), CROSS.modulo(2).at("aab")]
[4, 5, 2, 4, 2, 2, 1, 0]
>>> [weighed(CROSS).at("ab"), weighed(CROSS).at("aab"), weighed(GROW).at("aa"), summed(CROSS).at("aab"), summed(weighed(GROW)).at("aaa"), len(GROW), str(GROW)]
[1, 0, 1, 4, 3, 2, 'tally of 2 numbers over a']
'''

RANKS = r'''
>>> [rank(CROSS), new_beginnings(CROSS), new_ends(CROSS), rank(GROW), rank(CROSS - CROSS), first_text(CROSS), parting_text(CROSS, CROSS.times(2)), are_alike(CROSS, tally_of(AB + AB - AB))]
[3, ('', 'a', 'ab'), ('', 'b', 'ab'), 2, 0, 'ab', 'ab', True]
>>> lean = least_tally(CROSS.modulo(2))
>>> [lean.first, lean.moves["a"], lean.moves["b"], lean.last, rank(CROSS.modulo(2).times(2)), len(least_tally((CROSS + CROSS).modulo(2)))]
[(1, 0, 0), ((0, 1, 0), (1, 0, 0), (1, 1, 1)), ((1, 0, 0), (0, 0, 1), (0, 1, 0)), (0, 0, 1), 0, 0]
'''

READERS = r'''
>>> ["aab" in PAIR, "ab" in PAIR, PAIR.led(1, "b"), "b" in ~EVEN, len(EVEN & ENDS), "aa" in (EVEN & ENDS), "a" in (EVEN ^ ENDS), list(EVEN.texts(2)), str(PAIR)]
[True, False, 2, False, 4, True, True, ['aa', 'bb'], 'reader of 4 states over ab']
>>> [EVEN.behind("a").yes, EVEN.ahead("a").moves, EVEN.ahead("a").yes, "abc" in EVEN, (EVEN | ~EVEN).yes]
[(1,), {'a': (1, 0), 'b': (0, 1)}, (1,), False, (0, 1)]
'''

LEAST = r'''
>>> [least_reader(PAIR) == PAIR, len(least_reader(EVEN | ~EVEN)), parting(EVEN, PAIR), parting(PAIR, ~~PAIR), first_merge(ENDS), first_merge(PAIR), is_merge(ENDS, ("b", "bb", "aa")), is_turning(EVEN)]
[True, 1, 'a', None, ('a', '', 'a'), None, True, True]
>>> [answers(PAIR).at("aab"), answers(ENDS, prime=3).at("b"), reader_where(AB.modulo(2), 0) == PAIR, reader_where(Sum("a", {"a": 1}, prime=3), 2).moves, reader_where(Sum("a", {"aa": 1}, prime=2), 1).yes]
[1, 0, True, {'a': (1, 2, 0)}, (2, 3)]
'''

TABLES = r'''
>>> [Table.of(SWAP, 2).entries, Table.of(SWAP, 2, prime=2).entries, Table.of(SWAP, 2, prime=2).order(), Table.of(a, 3, prime=2).order(), Table.of(a, 3, prime=2).power(2).entries[:3], Table.of(SWAP, 3).number(AB)]
[(0, 0, 0, 1, -1, 0), (0, 0, 0, 1, 1, 0), 2, 4, (0, 0, 1), 1]
>>> odd = Table("ab", 2, (1, 1, 0, 0, 0, 0))
>>> [(odd * odd).entries, (~odd).entries, odd.power(10 ** 20)["a"], odd.modulo(3).power(3) == Table.unit("ab", 2, prime=3), str(odd.modulo(3)), Table.of(SWAP, 3).cut(2) == Table.of(SWAP, 2)]
[(2, 2, 1, 1, 1, 1), (-1, -1, 1, 1, 1, 1), 100000000000000000000, True, 'table of depth 2 over ab, modulo 3', True]
'''

TRUTH = r'''
>>> [is_true(Table.of(SWAP, 3)), is_true(odd), first_fault(odd), is_fault(odd, ("b", "a")), does_follow(odd, "b", "b"), exponents(Table.of(Word.of("ab", "ba"), 3)), exponents(Table.of(Word.of("ab", "ba"), 2, prime=2)), is_true(odd.modulo(2))]
[True, False, ('a', 'b'), True, True, (1, 1, -1, 1, -1), (1, 1, 0, 1, 0), False]
>>> [by_free("ab", 2, (1, 1, 0)).entries, by_free("ab", 2, (1, 1, 0, 0, 0), prime=2).entries, free_values(odd.modulo(2)), how_many_true("ab", 2, 2), how_many_true("ab", 2, 3), how_many_true("ab", 3, 2), paper(Table.of(SWAP, 2)), is_paper(odd, ("fault", "b", "a"))]
[(1, 1, 0, 0, 1, 0), (1, 1, 0, 0, 1, 0), (1, 1, 0, 0, 0), 32, 27, 128, ('word', (0, 0, 1)), True]
'''

TURNS = r'''
>>> four, six = Group.of(PAIR), Group("a", {"a": (1, 2, 3, 4, 5, 0)})
>>> [four.turn(a * b), four.order(a * b), len(four.all_turns()), four.text_for((3, 2, 1, 0)), four.text_for((1, 2, 3, 0)), (0, 1, 2, 3) in four, six.turn(Word("a", (("a", 10 ** 30),))), str(four)]
[(2, 0, 3, 1), 4, 8, 'abab', None, True, (4, 5, 0, 1, 2, 3), 'group of 4 points over ab']
>>> [joint((1, 0, 2), (0, 2, 1)), undone_turn((1, 2, 0)), turn_order((1, 0, 3, 4, 2)), spanned(3, ((1, 2, 0),)), len(spanned(3, ((1, 0, 2), (0, 2, 1)))), spanned(2, ())]
[(2, 0, 1), (2, 0, 1), 6, ((0, 1, 2), (1, 2, 0), (2, 0, 1)), 6, ((0, 1),)]
>>> Group.of(ENDS)
raises NotTurning('a')
'''

PARTS = r'''
>>> three = Group("ab", {"a": (1, 0, 2), "b": (0, 2, 1)})
>>> [falling(four, 2, 2), falling(four, 2, 3), fall_sizes(four, 2), fall_depth(four, 2), fall_depth(four, 3), fall_sizes(Group("a", {"a": (1, 2, 3, 4, 5, 6, 7, 0)}), 2), fall_depth(six, 2)]
[((0, 1, 2, 3), (3, 2, 1, 0)), ((0, 1, 2, 3),), (8, 2, 1), 2, None, (8, 4, 2, 2, 1), None]
>>> [prime_parts(six), comes_apart(six), comes_apart(three), prime_part(six, Word.of("a", "a"), 2), prime_part(six, Word.of("a", "a"), 3), first_clash(three), is_clash(three, ("ab", "b"))]
[{2: ((0, 1, 2, 3, 4, 5), (3, 4, 5, 0, 1, 2)), 3: ((0, 1, 2, 3, 4, 5), (2, 3, 4, 5, 0, 1), (4, 5, 0, 1, 2, 3))}, True, False, (3, 4, 5, 0, 1, 2), (4, 5, 0, 1, 2, 3), ('a', 'ab'), True]
'''

FINITE = r'''
>>> [sum_of(CROSS) == AB, sum_of(GROW), is_finite(GROW), tell_paper(CROSS), is_tell_paper(GROW, ("endless", "aa")), is_tell_paper(GROW, ("endless", "a")), degree_of(CROSS * CROSS), degree_of(CROSS - CROSS)]
[True, None, False, ('sum', (('ab', 1),)), True, False, 4, None]
>>> [is_finite(GROW.modulo(2)), sum_of(answers(EVEN, prime=2)).weights, is_finite(answers(EVEN)), sum_of(Tally("a", (1,), {"a": ((1,),)}, (5,))).weights, tell_paper(CROSS - CROSS)]
[False, {'': 1, 'a': 1}, False, {'': 5}, ('sum', ())]
'''

PRIME = r'''
>>> [is_by(EVEN, 2), is_by(EVEN, 3), sum_by(PAIR, 2).weights, sum_by(EVEN, 3), is_round(EVEN, 3, ("a", 2)), is_round(EVEN, 2, ("a", 2)), prime_paper(EVEN, 3)[0], is_prime_paper(EVEN, 3, ("round", "abaa", 2))]
[True, False, {'': 1, 'ab': 1}, None, True, False, 'round', True]
>>> [prime_paper(ENDS, 2)[0], is_prime_paper(ENDS, 2, ("merge", "a", "", "a")), prime_paper(EVEN, 2), primes_of(EVEN), primes_of(ENDS), primes_of(EVEN | ~EVEN), sum_by(EVEN | ~EVEN, 7).weights]
['merge', True, ('sum', (('', 1), ('a', 1))), (2,), (), (2, 3, 5, 7), {'': 1}]
'''

DEPTH = r'''
>>> [depth_by(PAIR, 2), depth_by(EVEN, 2), depth_by(EVEN, 3), depth_by(ENDS, 2), depth_by(EVEN | ~EVEN, 5), does_hang(PAIR, 2, 1), does_hang(PAIR, 2, 3), does_hang(ENDS, 2, 5)]
[2, 1, None, None, 0, False, True, False]
>>> [is_depth_paper(PAIR, 2, 1, ("pair", "ab", "ba")), depth_paper(PAIR, 2, 2), is_depth_paper(EVEN, 3, 2, ("pair", "", "aaa")), is_depth_paper(EVEN, 3, 3, ("pair", "", "aaa")), answer_at(PAIR, Table.of(SWAP, 2, prime=2)), answer_at(EVEN, Table.unit("ab", 1, prime=2))]
[True, ('hangs',), True, False, False, True]
'''

MODULO = r'''
>>> SIX = Reader("a", {"a": (1, 2, 3, 4, 5, 0)}, (0,))
>>> TRI = Reader("ab", {"a": (1, 0, 2), "b": (0, 2, 1)}, (0,))
>>> [depth_modulo(SIX, 6), depth_modulo(SIX, 2), depth_modulo(SIX, 30), depth_modulo(PAIR, 2), depth_modulo(TRI, 6), least_modulus(SIX), least_modulus(TRI), least_modulus(EVEN | ~EVEN)]
[1, None, 1, 2, None, 6, None, 2]
>>> [is_modulus(4), is_modulus(210), modulo_paper(SIX, 6), is_modulo_paper(SIX, 2, ("round", "a", 6)), is_modulo_paper(TRI, 6, ("apart", "a", "ab")), is_modulo_paper(TRI, 2, ("round", "ab", 3)), modulo_paper(ENDS, 6)[0]]
[False, True, ('depth', 1), True, True, True, 'merge']
'''

FAR = r'''
>>> far = Program("ab", (("text", "ab"), ("power", 0, 10 ** 30), ("text", "b"), ("join", 1, 2)))
>>> [far.size == 2 * 10 ** 30 + 1, far[10 ** 30], far_count(far, "a") == 10 ** 30, far_count(far, "ab") == 10 ** 30 * (10 ** 30 + 3) // 2, far_sum(AB.modulo(2), far), far_answer(PAIR, far), far_state(EVEN, 1, far), far_tally(CROSS.modulo(3), far)]
[True, 'a', True, True, 0, True, 1, 2]
>>> [newton(AB, "ab"), newton(AB.modulo(2), "ab"), period(AB.modulo(2), "ab"), period(AB.modulo(3), "ab"), newton(AB, "b"), round_of(PAIR, "ab"), round_of(ENDS, "a"), round_of(EVEN, "ba")]
[(0, 1, 1), (0, 1, 1), 4, 3, (), (0, 4), (1, 1), (0, 2)]
'''

LEARNED = r'''
>>> [len(texts_up_to("ab", 3)), texts_up_to("a", 2), learned_reader("ab", 4, lambda text: int(text in PAIR)) == PAIR, learned_reader("ab", 3, lambda text: int(text in PAIR)), learned_reader("a", 1, lambda text: 5).yes]
[15, ('', 'a', 'aa'), True, None, (0,)]
>>> [learned_tally("ab", 3, lambda text: AB.at(text), 2) == lean, learned_tally("ab", 2, lambda text: AB.at(text), 2), learned_sum("a", 2, lambda text: len(text) ** 2).weights, first_unlike("ab", 4, lambda text: AB.at(text), lambda text: text.count("ab"))]
[True, None, {'a': 1, 'aa': 2}, 'aab']
'''

DESK = r'''
>>> desk = Desk("ab", prime=2)
>>> [desk.watch("even", EVEN), desk.watch("pairs", AB.modulo(2)), desk.push("ab"), desk.repeat(10 ** 20), desk.lead("b"), desk.size, desk.number("even"), desk.number("pairs"), desk.numbers("a"), desk.way("even"), desk.names]
[None, None, None, None, None, 200000000000000000001, 1, 0, {'even': 0, 'pairs': 0}, '', ('even', 'pairs')]
>>> [desk.hold("even"), desk.held, desk.push("bb"), desk.table(1).entries, desk.undo(many=2), desk.held, desk.redo(), len(desk), desk.during(lambda same: same.push("b")), desk.size, str(desk)]
[None, ('even',), None, (0, 1), 5, (), 6, 2, None, 200000000000000000001, 'desk of 2 functions over ab']
>>> desk.push("a")
raises InvalidOperation
'''

FORMATS = r'''
>>> [write_sum(Sum("ab", {"ab": 1, "": -2}, prime=3)).split("\n"), write_reader(ENDS).split("\n"), write_tally(GROW).split("\n"), write_program(far).split("\n")[1:4:2]]
[['letters ab', 'prime 3', 'weight 1', 'weight 1 ab'], ['letters ab', 'moves a 1 1', 'moves b 0 0', 'yes 1'], ['letters a', 'prime none', 'first 1 0', 'row a 1 1', 'row a 1 0', 'last 1 0'], ['text ab', 'text b']]
>>> [write_table(Table.of(SWAP, 2, prime=2)).split("\n"), read_reader(write_reader(PAIR)) == PAIR, read_tally(write_tally(GROW)) == GROW, write_value(("merge", ("", -3), None)), read_value("( =aB ( ) )")]
[['letters ab', 'prime 2', 'depth 2', 'at ab 1', 'at ba 1'], True, True, '( =merge ( = -3 ) none )', ('aB', ())]
>>> read_sum("letters ab\nprime 2\nweight 2 ab")
raises ParseError(3)
>>> read_reader("letters a\nyes 0\nmoves a 0")
raises ParseError(2)
'''

SHELL = r'''
>>> shell = Shell("ab", prime=2)
>>> [shell("sum pairs 1 =ab 3 ="), shell("reader even a 1 0 b 0 1 yes 0"), shell("push =ab"), shell("repeat 5"), shell("numbers =b"), shell("names"), shell("size"), shell("show pairs").split("\n")]
['done', 'done', 'done', 'done', 'even 0\npairs 1', 'even pairs', '10', ['letters ab', 'prime 2', 'weight 1', 'weight 1 ab']]
>>> [shell("merge even"), shell("rank pairs"), shell("period pairs =ab"), shell("round even =a"), shell("merge pairs"), shell("hold even"), shell("push =a"), shell("way even"), shell("count =ab")]
['none', '3', '4', '0 2', 'operation', 'done', 'operation', '=a', '1']
>>> [shell("push =c"), shell("number odd"), shell("sum pairs"), shell("reader one a 0 yes"), shell("undo 9"), shell("drop even"), shell("release even"), shell("drop even"), shell("repeat -1")]
['text', 'unknown odd', 'operation', 'what', 'undo 9', 'operation', 'done', 'done', 'what']
'''


def public_names():
    found = {}
    for module in (names, words, leading, counts, sums, overlays, tallies, ranks, readers, least, tables, truth, turns,
                   falling, parts, finite, prime, depth, modulo, programs, learned, desk, formats, shell):
        found.update({name: value for name, value in vars(module).items() if not name.startswith("_")})
    return found


class ExamplesTest(unittest.TestCase):
    def setUp(self):
        self.known = public_names()
        self.follow(VALUES)

    def follow(self, example):
        lines = example.strip().split("\n")
        compared = 0
        for at, line in enumerate(lines):
            code = line.removeprefix(">>> ")
            told = lines[at + 1] if at + 1 < len(lines) and not lines[at + 1].startswith(">>> ") else None
            if line == code:
                continue
            if told is None:
                exec(code, self.known)
            else:
                compared += 1
                with self.subTest(code=code):
                    self.assertEqual(self.told_by(code), told)
        return compared

    def told_by(self, code):
        """What the code gives; of an error its name and what it keeps."""
        try:
            return repr(eval(code, self.known))
        except Exception as error:
            kept = ", ".join(repr(value) for value in vars(error).values())
            return f"raises {type(error).__name__}({kept})" if kept else f"raises {type(error).__name__}"

    def test_names(self):
        self.assertEqual(self.follow(NAMES), 1)

    def test_words(self):
        self.assertEqual(self.follow(WORDS), 2)

    def test_leading(self):
        self.assertEqual(self.follow(LEADING), 2)

    def test_counts(self):
        self.assertEqual(self.follow(COUNTS), 2)

    def test_sums(self):
        self.assertEqual(self.follow(SUMS), 2)

    def test_overlays(self):
        # these examples go on with the values of those of the sums
        self.follow(SUMS)
        self.assertEqual(self.follow(OVERLAYS), 2)

    def test_tallies(self):
        self.assertEqual(self.follow(TALLIES), 2)

    def test_ranks(self):
        self.assertEqual(self.follow(RANKS), 2)

    def test_readers(self):
        self.assertEqual(self.follow(READERS), 2)

    def test_least_readers(self):
        self.assertEqual(self.follow(LEAST), 2)

    def test_tables(self):
        # these examples go on with the values of those of the words
        self.follow(WORDS)
        self.assertEqual(self.follow(TABLES), 2)

    def test_truth(self):
        # these examples go on with the values of those of the tables
        self.follow(WORDS)
        self.follow(TABLES)
        self.assertEqual(self.follow(TRUTH), 2)

    def test_turns(self):
        self.follow(WORDS)
        self.assertEqual(self.follow(TURNS), 3)

    def test_parts(self):
        # these examples go on with the values of those of the turns
        self.follow(WORDS)
        self.follow(TURNS)
        self.assertEqual(self.follow(PARTS), 2)

    def test_finite(self):
        self.assertEqual(self.follow(FINITE), 2)

    def test_prime(self):
        self.assertEqual(self.follow(PRIME), 2)

    def test_depth(self):
        self.assertEqual(self.follow(DEPTH), 2)

    def test_modulo(self):
        self.assertEqual(self.follow(MODULO), 2)

    def test_far(self):
        self.assertEqual(self.follow(FAR), 2)

    def test_learned(self):
        # these examples go on with the values of those of the ranks
        self.follow(RANKS)
        self.assertEqual(self.follow(LEARNED), 2)

    def test_desk(self):
        self.assertEqual(self.follow(DESK), 3)

    def test_formats(self):
        # these examples go on with the values of those of the far texts
        self.follow(FAR)
        self.assertEqual(self.follow(FORMATS), 4)

    def test_shell(self):
        self.assertEqual(self.follow(SHELL), 3)


if __name__ == "__main__":
    unittest.main()
