"""Stage 23: the shell."""

import itertools
import random

from tests.helpers import MOST, Case, all_texts, every_kind
from tests.test_desk import HUNDRED
from tests.test_tallies import LETTERS_SLOT, PRIME_SLOT
from whatcounts.desk.desk import Desk
from whatcounts.far.programs import period, round_of
from whatcounts.reader.least import answers, first_merge
from whatcounts.reader.readers import Reader
from whatcounts.sums.sums import Sum
from whatcounts.tally.ranks import rank
from whatcounts.tally.tallies import tally_of
from whatcounts.text.formats import write_reader, write_sum, write_value
from whatcounts.text.shell import Shell

EVEN = Reader("ab", {"a": (1, 0), "b": (0, 1)}, (0,))
ENDS = Reader("ab", {"a": (1, 1), "b": (0, 0)}, (1,))
EVEN_LINE, ENDS_LINE = "reader even a 1 0 b 0 1 yes 0", "reader ends a 1 1 b 0 0 yes 1"


def shell_with(*lines, letters="ab", prime=2):
    shell = Shell(letters, prime=prime)
    for line in lines:
        assert shell(line) == "done", line
    return shell


class AnswersTest(Case):
    def test_calls(self):
        shell, desk = Shell("ab", prime=3), Desk("ab", prime=3)
        pairs = Sum("ab", {"ab": 1, "": -2}, prime=3)
        for line, call in (("push =ab", lambda: desk.push("ab")), ("lead =a", lambda: desk.lead("a")), ("repeat 3", lambda: desk.repeat(3)),
                           ("sum one 1 =ab -2 =", lambda: desk.watch("one", pairs)), (EVEN_LINE, lambda: desk.watch("even", EVEN)),
                           ("hold one", lambda: desk.hold("one")), ("push =", lambda: desk.push("")), ("release one", lambda: desk.release("one")),
                           ("undo", desk.undo), ("redo", desk.redo), ("undo 2", lambda: desk.undo(many=2)), ("redo 1", lambda: desk.redo(many=1)),
                           ("undo 0", lambda: desk.undo(many=0)), ("redo 0", lambda: desk.redo(many=0)), ("drop even", lambda: desk.drop("even")),
                           (f"repeat {HUNDRED}", lambda: desk.repeat(HUNDRED)), ("lead =", lambda: desk.lead("")), ("sum none", lambda: desk.watch("none", Sum("ab", {}, prime=3)))):
            self.assertEqual(shell(line), "done")
            call()
            twin = shell.desk()
            self.assertTrue(twin == desk, line)
            self.assertEqual(twin.undo(many=0), desk.undo(many=0))
            self.assertEqual((shell("size"), shell("names"), shell("held")), (str(desk.size), " ".join(desk.names) or "none", " ".join(desk.held) or "none"))
        self.assertEqual(shell.desk().names, ("none", "one"))

    def test_what_is_told(self):
        for prime in (None, 2, 7):
            shell = shell_with(EVEN_LINE, ENDS_LINE, "sum pairs 1 =ab 3 = -1 =bba", "push =aab", "repeat 5", "lead =b", prime=prime)
            desk, pairs = shell.desk(), Sum("ab", {"ab": 1, "": 3, "bba": -1}, prime=prime)
            self.assertEqual((shell("names"), shell("held"), shell("size")), ("ends even pairs", "none", "16"))
            shell("hold even"), shell("hold pairs")
            self.assertEqual(shell("held"), "even pairs")
            for name in ("ends", "even", "pairs"):
                self.assertEqual(shell(f"number {name}"), str(desk.number(name)))
            for text in all_texts("ab", 2):
                self.assertEqual(shell(f"numbers ={text}"), "\n".join(f"{name} {number}" for name, number in desk.numbers(text).items()))
                self.assertEqual(shell(f"count ={text}"), str(desk.table(5)[text]))
                self.assertEqual(shell(f"round even ={text}"), "{} {}".format(*round_of(EVEN, text)))
                self.assertEqual(shell(f"round ends ={text}"), "{} {}".format(*round_of(ENDS, text)))
                if prime is not None:
                    self.assertEqual(shell(f"period pairs ={text}"), str(period(pairs, text)))
                else:
                    self.assertEqual(shell(f"period pairs ={text}"), "operation")
            self.assertEqual([shell("count =babab"), shell("count =")], [str(desk.table(5)["babab"]), "1"])
            for name, reader in (("even", EVEN), ("ends", ENDS)):
                self.assertEqual(shell(f"way {name}"), "=" + desk.way(name))
                self.assertEqual(shell(f"show {name}"), write_reader(reader))
                self.assertEqual(shell(f"merge {name}"), write_value(first_merge(reader)))
                self.assertEqual(shell(f"rank {name}"), str(rank(answers(reader, prime=prime))))
            self.assertEqual((shell("show pairs"), shell("rank pairs")), (write_sum(pairs), str(rank(tally_of(pairs)))))
            self.assertEqual((shell("merge even"), shell("merge ends")), ("none", "( =a = =a )"))

    def test_ways(self):
        shell = shell_with("reader none a 0 0 b 0 0 yes", "reader late a 1 2 2 b 0 0 2 yes 2", letters="ab")
        self.assertEqual([shell("way none"), shell("way late"), shell("push =a"), shell("way late"), shell("push =a"), shell("way late")],
                         ["none", "=aa", "done", "=a", "done", "="])

    def test_none(self):
        shell = Shell("ab")
        self.assertEqual([shell("names"), shell("held"), shell("numbers =ab"), shell("size"), shell("count =a")], ["none", "none", "none", "0", "0"])

    def test_far(self):
        shell = shell_with("sum all 1 =a 1 =b", "push =ab", *[f"repeat {HUNDRED}"] * 3, prime=None)
        self.assertEqual(shell("number all"), str(2 * 10 ** 300))
        self.assertEqual(shell("numbers =ab"), f"all {2 * 10 ** 300 + 2}")
        self.assertEqual(shell("count =aaaaa"), str(shell.desk().table(5)["aaaaa"]))
        self.assertEqual([shell(f"repeat {HUNDRED}"), shell(f"repeat {HUNDRED // 2}"), shell("size")], [f"many {10 ** 400}", f"many {10 ** 400}", str(2 * 10 ** 300)])
        self.assertEqual([shell(f"repeat {HUNDRED + 1}"), shell(f"repeat {MOST}"), shell(f"repeat {MOST + 1}")], [f"number {HUNDRED + 1}", f"number {MOST}", "what"])

    def test_twins(self):
        shell = shell_with(EVEN_LINE, "push =a")
        desk = shell.desk()
        self.assertIsInstance(desk, Desk)
        self.assertIsNot(desk, shell.desk())
        desk.push("b")
        self.assertEqual([shell("size"), desk.size, shell.desk().undo(many=2)], ["1", 2, 0])
        self.assertEqual((desk.letters, desk.prime), ("ab", 2))

    def test_both_ways_to_call(self):
        shell = Shell("ab")
        self.assertEqual([shell.answer("push =ab"), shell.answer("size"), shell("size"), shell.answer("pop"), shell.answer(None)], ["done", "2", "2", "what", "what"])


class ErrorsTest(Case):
    def test_orders(self):
        shell = shell_with("sum pairs 1 =ab", EVEN_LINE, "push =ab", "hold even")
        cases = [("push =c", "text"), ("push =abc", "text"), ("lead =c", "text"), ("push =a", "operation"), ("lead =a", "operation"), ("push =b", "done"), ("undo", "done"),
                 ("push =" + "a" * 4001, "text"), ("push =" + "b" * 4000, "done"), ("undo", "done"), ("repeat 0", "operation"), ("repeat 2", "operation"), ("repeat 1", "done"),
                 ("undo", "done"), ("number odd", "unknown odd"), ("number Odd", "unknown Odd"), ("drop odd", "unknown odd"), ("hold odd", "unknown odd"),
                 ("release odd", "unknown odd"), ("way odd", "unknown odd"), ("show odd", "unknown odd"), ("merge odd", "unknown odd"), ("rank odd", "unknown odd"),
                 ("period odd =ab", "unknown odd"), ("round odd =ab", "unknown odd"), ("period odd =c", "unknown odd"), ("round odd =c", "unknown odd"),
                 ("drop even", "operation"), ("hold even", "operation"), ("release pairs", "operation"), ("way pairs", "operation"), ("merge pairs", "operation"),
                 ("round pairs =ab", "operation"), ("round pairs =c", "operation"), ("period even =ab", "operation"), ("period even =c", "operation"),
                 ("period pairs =c", "text"), ("round even =c", "text"), ("numbers =c", "text"), ("count =c", "pattern"), ("count =ababab", "pattern"),
                 ("count =" + "a" * 401, "pattern"), ("undo 9", "undo 9"), ("redo 2", "undo 2"), (f"undo {MOST}", f"undo {MOST}"),
                 ("sum Odd 1 =ab", "name"), ("sum abcdefghi 1 =ab", "name"), ("sum 1 1 =ab", "name"), ("sum pairs", "operation"), ("sum even 1 =ab", "operation"),
                 ("sum Odd 1 =c", "operation"), ("sum one 1 =c", "operation"), ("sum one 1 =" + "a" * 13, "operation"), ("sum one 1 =ababab", "operation"),
                 ("sum Odd 1 =ababab", "name"), ("reader Odd a 0 b 0 yes", "name"), ("reader even a 0 b 0 yes", "operation"), ("reader one a 1 b 0 yes", "operation"),
                 ("reader one a 0 0 b 0 yes", "operation"), ("reader one a 0 b 0 yes 1", "operation"), ("reader one a 0 b 0 yes 0 0", "operation"),
                 ("reader one a -1 b 0 yes", "operation"), ("reader Odd a 1 b 0 yes", "operation"), (f"reader one a {MOST} b 0 yes", "operation"),
                 ("reader one" + " a" + " 0" * 61 + " b" + " 0" * 61 + " yes", "operation")]
        for line, answer in cases:
            before = shell.desk()
            self.assertEqual(shell(line), answer, line[:80])
            if answer not in ("done",):
                self.assertTrue(shell.desk() == before)
                self.assertEqual(shell.desk().undo(many=0), before.undo(many=0))

    def test_exact_sums(self):
        shell = shell_with("sum pairs 1 =ab", prime=None)
        self.assertEqual([shell("period pairs =ab"), shell("period pairs =c"), shell("period odd =c")], ["operation", "text", "unknown odd"])

    def test_many(self):
        shell = shell_with(*[f"sum {name}" for name in "abcdefgh"])
        self.assertEqual([shell("sum i"), shell("sum a"), shell("sum I"), shell("sum i 1 =c"), shell("sum i 1 =ababab")],
                         ["many 8", "operation", "name", "operation", "operation"])
        patterns = all_texts("abc", 5)
        wide = shell_with("sum some " + " ".join(f"1 ={text}" for text in patterns), letters="abc", prime=7)
        self.assertEqual(wide("rank some"), "many 60")
        self.assertEqual(wide("show some"), write_sum(Sum("abc", dict.fromkeys(patterns, 1), prime=7)))
        more = all_texts("abc", 6)
        self.assertEqual(wide("sum more " + " ".join(f"1 ={text}" for text in more)), "many 400")
        self.assertEqual(wide("sum Odd " + " ".join(f"1 ={text}" for text in more)), "many 400")
        self.assertEqual(wide("sum more " + " ".join(f"7 ={text}" for text in more)), "done")

    def test_after_undo(self):
        shell = shell_with("sum one 1 =a", "push =a", "drop one", "undo 3")
        self.assertEqual([shell("number one"), shell("redo 2"), shell("number one"), shell("redo 5"), shell("redo"), shell("redo"), shell("undo 4"), shell("undo 3")],
                         ["unknown one", "done", "1", "undo 5", "done", "undo 1", "undo 4", "done"])


class LinesTest(Case):
    COMMANDS = ["push =ab", "lead =ab", "repeat 1", "sum new 1 =ab -2 =", "reader new a 1 0 b 0 1 yes 0", "drop pairs", "hold pairs", "release even", "undo", "undo 1", "redo",
                "redo 0", "names", "held", "size", "number pairs", "numbers =a", "count =ab", "way even", "show pairs", "merge even", "rank pairs", "period pairs =ab",
                "round even =ab"]

    def shell(self):
        return shell_with("sum pairs 1 =ab", EVEN_LINE, "push =ab", "hold even", "push =b", "undo")

    def check_what(self, line):
        shell = self.shell()
        before = shell.desk()
        self.assertEqual(shell(line), "what", repr(line)[:100])
        self.assertTrue(shell.desk() == before)
        self.assertEqual(shell.desk().redo(), before.redo())

    def test_every_kind(self):
        for value in every_kind():
            self.assertEqual(self.shell()(value), "what")

    def test_blanks_and_newlines(self):
        for line in self.COMMANDS:
            self.assertNotEqual(self.shell()(line), "what", line)
            for other in (" " + line, line + " ", line.replace(" ", "  ", 1) if " " in line else line + "  ", line + "\n", "\n" + line, line + "\t", line.upper(),
                          line.capitalize(), line.replace(" ", "\n", 1) if " " in line else line + "\n1", line.replace(" ", "\t", 1) if " " in line else "\t" + line):
                if not (other.endswith("\t") and line.split(" ")[0] in ("drop", "hold", "release", "number", "way", "show", "merge", "rank")):
                    self.check_what(other)
        # a name is any signs without a blank
        for line in ("number a\t", "drop =ab", "hold 1", "show none", "way \r", "merge \u00e9", "rank -"):
            self.assertEqual(self.shell()(line), "unknown " + line.split(" ")[1])
        self.check_what("number a\nb")
        self.check_what("sum a\nb 1 =ab")

    def test_a_word_more_or_less(self):
        for line in self.COMMANDS:
            words = line.split(" ")
            if words[0] not in ("sum", "reader", "undo", "redo"):
                for more in ("1", "=ab", "one", "pairs"):
                    self.check_what(line + " " + more)
                if len(words) > 1:
                    self.check_what(" ".join(words[:-1]))
        for line in ("undo 1 1", "redo 1 1", "undo one", "redo =a", "undo undo", "sum", "sum new 1", "sum new =ab", "sum new =ab 1", "sum new 1 =ab 2", "sum new 1 ab",
                     "sum new 1 =ab 2 =ab", "sum new 0 = 0 =", "sum new one =ab", "sum new 1 =aB", "reader", "reader new", "reader new yes", "reader new a 0 yes", "reader new a 0 b 0",
                     "reader new b 0 a 0 yes", "reader new a b 0 yes", "reader new a 0 b yes", "reader new a 0 b 0 yes 0 x", "reader new a 0 b 0 c 0 yes", "reader new a 0 a 0 b 0 yes",
                     "reader new a 0 b 0 yes yes", "reader new a x b 0 yes", "reader new a 0 b 0 no 0", "reader a 0 b 0 yes 0", "reader new a 0 b 0 yes =a", "", " ", "what", "done",
                     "pop", "push=ab", "push", "=ab", "pushes =ab", "size 1", "number", "repeat", "help"):
            self.check_what(line)
        # an empty word is none, where a name or a text is wanted, too
        for line in ("push ", "numbers ", "count ", "repeat ", "undo ", "drop ", "hold ", "number ", "rank ", "period  =ab", "period pairs ", "round even ", "names ", "sum ", "sum  1 =ab",
                     "sum new 1 ", "sum new  =ab", "reader  a 0 b 0 yes", "reader new a 0 b 0 yes "):
            self.check_what(line)

    def test_words_of_another_kind(self):
        for line in ("push ab", "push 1", "push =aB", "push =a1", "push ==", "push =a=", "push =\u00e9", "lead ab", "numbers ab", "numbers pairs", "count ab", "count 1", "count =A",
                     "period pairs ab", "period pairs 1", "round even ab", "round =ab even", "period =ab pairs", "repeat -1", "repeat one", "repeat =a", "repeat 01", "repeat +1", "repeat 1_0",
                     "repeat 1.0", "repeat \u0661", "repeat -0", "undo -1", "redo -1", "undo 01", "undo +1", "redo -0", "undo \u00b2", f"repeat {MOST + 1}", f"undo {MOST + 1}",
                     f"sum new {MOST + 1} =a", "sum new 01 =a", "sum new +1 =a", "reader new a 00 b 0 yes", "reader new a 0 b 0 yes 00", "reader new a 0 b +0 yes", f"reader new a {MOST + 1} b 0 yes"):
            self.check_what(line)
        for line, answer in (("round =ab =ab", "unknown =ab"), ("period 1 =ab", "unknown 1"), (f"sum new {MOST} =a -{MOST} =b", "done"), ("sum new 0 =a", "done"),
                             ("sum new 1 =b 1 =a", "done"), ("reader new a 0 b 0 yes", "done"), ("sum sum 1 =", "done"), ("reader yes a 0 b 0 yes 0", "done"), ("drop 5", "unknown 5")):
            self.assertEqual(self.shell()(line), answer)

    def test_letters_of_the_desk(self):
        one, three = Shell("x"), Shell("abc", prime=5)
        self.assertEqual([one("reader new x 1 0 yes 1"), one("push =xx"), one("push =a"), one("reader more a 0 yes"), one("way new")], ["done", "done", "text", "what", "=x"])
        self.assertEqual([three("reader new a 0 b 0 c 0 yes 0"), three("reader more a 0 b 0 yes 0"), three("sum some 4 =cab"), three("push =cab"), three("number some")],
                         ["done", "what", "done", "done", "4"])

    def test_drawn_lines(self):
        """Lines with one word changed answer as the rules of the lines tell."""
        source = random.Random(4)
        words = ["push", "undo", "=ab", "=", "1", "0", "-1", "even", "pairs", "odd", "a", "b", "yes", "=c", "sum", "reader", "7"]
        kinds = set()
        for line, _ in itertools.product(self.COMMANDS, range(25)):
            parts = line.split(" ")
            parts[source.randrange(len(parts))] = source.choice(words)
            shell = self.shell()
            before = shell.desk()
            answer = shell(" ".join(parts))
            kinds.add(answer.split(" ")[0])
            if answer != "done":
                self.assertTrue(shell.desk() == before)
                self.assertEqual(shell.desk().redo(), before.redo())
        self.assertLessEqual({"what", "done", "unknown", "operation", "text", "undo"}, kinds)

    def test_new_shells(self):
        self.check_slots(Shell, [LETTERS_SLOT, PRIME_SLOT])
