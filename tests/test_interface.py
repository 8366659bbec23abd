"""The interface: names, arguments, and where each function, class and method is defined."""

import importlib
import inspect
import unittest

FUNCTIONS = {
    "whatcounts.base.names": ["is_integer(value)", "is_name(value)", "is_letters(value)", "is_text(letters, value)",
                              "is_signed(letters, value)", "is_pattern(letters, value)", "is_prime(value)"],
    "whatcounts.pattern.leading": ["is_leading(letters, value)", "factors(letters, pattern)", "halves(letters, pattern)",
                                   "bracket_of(letters, pattern)", "patterns_of(letters, depth)",
                                   "free_patterns(letters, depth, *, prime=None)", "how_many(letters, size)"],
    "whatcounts.count.counts": ["count(word, pattern)", "beginnings(word, pattern)", "binomial(number, size)",
                                "scattered(letters, text, pattern)", "weight(letters, pattern, call)",
                                "weights_up_to(letters, depth, call)"],
    "whatcounts.sums.overlays": ["overlays(letters, one, other)", "binomial_of(total, size)", "turned_round(total)",
                                 "renamed(total, letters)", "led(total, words)"],
    "whatcounts.tally.tallies": ["tally_of(total)", "weighed(tally)", "summed(tally)"],
    "whatcounts.tally.ranks": ["rank(tally)", "new_beginnings(tally)", "new_ends(tally)", "first_text(tally)",
                               "parting_text(one, other)", "are_alike(one, other)", "least_tally(tally)"],
    "whatcounts.reader.least": ["least_reader(reader)", "parting(one, other)", "first_merge(reader)",
                                "is_merge(reader, value)", "is_turning(reader)", "answers(reader, *, prime=None)",
                                "reader_where(total, rest)"],
    "whatcounts.table.truth": ["does_follow(table, one, other)", "is_true(table)", "first_fault(table)",
                               "is_fault(table, value)", "free_values(table)",
                               "by_free(letters, depth, numbers, *, prime=None)", "exponents(table)",
                               "by_exponents(letters, depth, numbers, *, prime=None)",
                               "how_many_true(letters, depth, prime)", "paper(table)", "is_paper(table, value)",
                               "word_of(table)"],
    "whatcounts.group.turns": ["joint(one, other)", "undone_turn(turn)", "turn_order(turn)", "spanned(points, turns)"],
    "whatcounts.group.falling": ["falling(group, prime, size)", "fall_sizes(group, prime)", "fall_depth(group, prime)"],
    "whatcounts.group.parts": ["prime_parts(group)", "comes_apart(group)", "prime_part(group, word, prime)",
                               "first_clash(group)", "is_clash(group, value)"],
    "whatcounts.tell.finite": ["is_finite(tally)", "sum_of(tally)", "tell_paper(tally)", "is_tell_paper(tally, value)",
                               "degree_of(tally)"],
    "whatcounts.tell.prime": ["is_by(reader, prime)", "sum_by(reader, prime)", "is_round(reader, prime, value)",
                              "prime_paper(reader, prime)", "is_prime_paper(reader, prime, value)", "primes_of(reader)"],
    "whatcounts.tell.depth": ["depth_by(reader, prime)", "does_hang(reader, prime, depth)",
                              "depth_paper(reader, prime, depth)", "is_depth_paper(reader, prime, depth, value)",
                              "answer_at(reader, table)"],
    "whatcounts.tell.modulo": ["is_modulus(value)", "depth_modulo(reader, modulus)", "least_modulus(reader)",
                               "modulo_paper(reader, modulus)", "is_modulo_paper(reader, modulus, value)"],
    "whatcounts.far.programs": ["far_count(program, pattern)", "far_sum(total, program)", "far_tally(tally, program)",
                                "far_table(program, depth, *, prime=None)", "far_state(reader, state, program)",
                                "far_answer(reader, program)", "newton(total, text)", "period(total, text)",
                                "round_of(reader, text)"],
    "whatcounts.learn.learned": ["texts_up_to(letters, size)", "learned_reader(letters, most, call)",
                                 "learned_tally(letters, most, call, prime)",
                                 "learned_sum(letters, degree, call, *, prime=None)",
                                 "first_unlike(letters, size, one, other)"],
    "whatcounts.text.formats": ["write_word(word)", "write_sum(total)", "write_tally(tally)", "write_reader(reader)",
                                "write_table(table)", "write_program(program)", "write_value(value)", "read_word(text)",
                                "read_sum(text)", "read_tally(text)", "read_reader(text)", "read_table(text)",
                                "read_program(text)", "read_value(text)"],
}
CLASSES = {
    ("whatcounts.word.words", "Word(letters, runs)"): [
        "power(number)", "turned(other)", "bracket(other)", "shortest()", "is_plain()"],
    ("whatcounts.sums.sums", "Sum(letters, weights, *, prime=None)"): [
        "at(text)", "at_word(word)", "times(number)", "behind(text)", "ahead(text)", "modulo(prime)"],
    ("whatcounts.tally.tallies", "Tally(letters, first, moves, last, *, prime=None)"): [
        "at(text)", "times(number)", "behind(text)", "ahead(text)", "back()", "modulo(prime)"],
    ("whatcounts.reader.readers", "Reader(letters, moves, yes)"): [
        "led(state, text)", "behind(text)", "ahead(text)", "texts(size)"],
    ("whatcounts.table.tables", "Table(letters, depth, entries, *, prime=None)"): [
        "power(number)", "order()", "cut(depth)", "with_entry(pattern, entry)", "modulo(prime)", "number(total)"],
    ("whatcounts.group.turns", "Group(letters, moves)"): ["turn(word)", "order(word)", "all_turns()", "text_for(value)"],
    ("whatcounts.far.programs", "Program(letters, steps)"): ["power(number)", "text()"],
    ("whatcounts.desk.desk", "Desk(letters, *, prime=None)"): [
        "push(text)", "lead(text)", "repeat(number)", "watch(name, function)", "drop(name)", "hold(name)", "release(name)",
        "number(name)", "numbers(text)", "table(depth)", "way(name)", "undo(*, many=1)", "redo(*, many=1)", "trial()",
        "during(call)", "twin()"],
    ("whatcounts.text.shell", "Shell(letters, *, prime=None)"): ["desk()", "answer(line)", "__call__(line)"],
}
CLASS_METHODS = {("whatcounts.word.words", "Word"): ["of(letters, text)"],
                 ("whatcounts.table.tables", "Table"): ["of(word, depth, *, prime=None)",
                                                        "unit(letters, depth, *, prime=None)"],
                 ("whatcounts.group.turns", "Group"): ["of(reader)"],
                 ("whatcounts.far.programs", "Program"): ["of(letters, text)"]}
OPERATORS = {"Word": ["__getitem__", "__len__", "__iter__", "__eq__", "__str__", "__mul__", "__invert__"],
             "Sum": ["__add__", "__sub__", "__mul__", "__len__", "__eq__", "__str__"],
             "Tally": ["__add__", "__sub__", "__mul__", "__len__", "__eq__", "__str__"],
             "Reader": ["__invert__", "__and__", "__or__", "__xor__", "__contains__", "__len__", "__eq__", "__str__"],
             "Table": ["__getitem__", "__mul__", "__invert__", "__len__", "__eq__", "__str__"],
             "Group": ["__contains__", "__len__", "__eq__", "__str__"],
             "Program": ["__getitem__", "__len__", "__eq__", "__str__", "__add__"],
             "Desk": ["__getitem__", "__contains__", "__len__", "__iter__", "__eq__", "__str__"],
             "Shell": ["__call__"]}
PROPERTIES = {"Word": ["letters", "runs", "size"], "Sum": ["letters", "prime", "weights", "degree"],
              "Tally": ["letters", "first", "moves", "last", "prime"], "Reader": ["letters", "moves", "yes"],
              "Table": ["letters", "depth", "entries", "prime"], "Group": ["letters", "moves"],
              "Program": ["letters", "steps", "size"], "Desk": ["letters", "prime", "size", "names", "held"], "Shell": []}
CONSTANTS = {"whatcounts.word.words": {"MAX_RUNS": 200, "MAX_POWER": 400}, "whatcounts.count.counts": {"MAX_WEIGHT": 12},
             "whatcounts.sums.sums": {"MAX_DEGREE": 12, "MAX_WEIGHTS": 400}, "whatcounts.sums.overlays": {"MAX_OVERLAY": 8},
             "whatcounts.tally.tallies": {"MAX_WIDTH": 60}, "whatcounts.reader.readers": {"MAX_STATES": 60},
             "whatcounts.group.turns": {"MAX_POINTS": 60, "MAX_TURNS": 2000},
             "whatcounts.tell.depth": {"MAX_PAIRS": 20000},
             "whatcounts.far.programs": {"MAX_STEPS": 40, "MAX_SIZE": 10 ** 400}, "whatcounts.desk.desk": {"MAX_WATCHED": 8}}


def signature_without_self(function):
    parameters = list(inspect.signature(function).parameters.values())
    return str(inspect.Signature(parameters[1:]))


class InterfaceTest(unittest.TestCase):
    def test_functions(self):
        for module, functions in FUNCTIONS.items():
            for told in functions:
                name = told.partition("(")[0]
                function = getattr(importlib.import_module(module), name)
                self.assertEqual(name + str(inspect.signature(function)), told)
                self.assertEqual(function.__module__, module)

    def test_classes(self):
        for (module, told), methods in CLASSES.items():
            name = told.partition("(")[0]
            some = getattr(importlib.import_module(module), name)
            self.assertEqual(some.__module__, module)
            self.assertEqual(name + str(inspect.signature(some)), told)
            for method in methods:
                body = vars(some)[method.partition("(")[0]]
                self.assertEqual(method.partition("(")[0] + signature_without_self(body), method)
            for operator in OPERATORS[name]:
                self.assertIn(operator, vars(some))
            for attribute in PROPERTIES[name]:
                self.assertIsInstance(vars(some)[attribute], property)

    def test_class_methods(self):
        for (module, name), methods in CLASS_METHODS.items():
            some = getattr(importlib.import_module(module), name)
            for told in methods:
                method = told.partition("(")[0]
                self.assertIsInstance(vars(some)[method], classmethod)
                self.assertEqual(method + str(inspect.signature(getattr(some, method))), told)

    def test_constants(self):
        for module, constants in CONSTANTS.items():
            for name, value in constants.items():
                self.assertEqual(getattr(importlib.import_module(module), name), value)


if __name__ == "__main__":
    unittest.main()
