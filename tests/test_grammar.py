"""Points 1 to 3 and 101 to 104, and leastmend/grammars/grammar.py."""

import copy
import inspect
import itertools
import re
import unittest

from leastmend.errors import BadLine, MendError, TakenRule, TooLarge
from leastmend.grammars import grammar as module
from leastmend.grammars.grammar import is_kind, is_name, names_of, read_grammar, write_grammar

LISTS = [("list", ["OPEN", "items", "CLOSE"]), ("items", []), ("items", ["list", "items"])]
LISTS_TEXT = "list: OPEN items CLOSE\nitems:\nitems: list items\n"


def lines(many):
    """Return the text of so many different rules."""
    return "".join("a: " + "ABCDEFGHIJKLMNOPQRSTUVWXYZ"[k] + "\n" for k in range(many))


class TheInterface(unittest.TestCase):
    def test_the_functions_and_their_arguments(self):
        wanted = [("is_kind", ["text"]), ("is_name", ["text"]), ("write_grammar", ["grammar"]),
                  ("read_grammar", ["text"]), ("names_of", ["grammar"])]
        for name, arguments in wanted:
            function = getattr(module, name)
            self.assertEqual(function.__module__, "leastmend.grammars.grammar")
            self.assertEqual(list(inspect.signature(function).parameters), arguments)


class Words(unittest.TestCase):
    def check(self, function, text, wanted):
        self.assertIs(function(text), wanted, (function.__name__, text))

    def test_the_lengths(self):
        for many, wanted in [(0, False), (1, True), (2, True), (11, True), (12, True), (13, False), (40, False)]:
            self.check(is_kind, "K" * many, wanted)
            self.check(is_name, "n" * many, wanted)

    def test_all_single_characters(self):
        for code in range(0, 400):
            self.check(is_kind, chr(code), chr(code) in "ABCDEFGHIJKLMNOPQRSTUVWXYZ")
            self.check(is_name, chr(code), chr(code) in "abcdefghijklmnopqrstuvwxyz")

    def test_other_is_no_kind(self):
        self.check(is_kind, "OTHER", False)
        self.check(is_name, "OTHER", False)

    def test_words_around_other(self):
        for text in ["OTHERS", "OTHERWISE", "OTHEROTHER", "OTHE", "THER", "ANOTHER", "AOTHER"]:
            self.check(is_kind, text, True)

    def test_other_in_small_letters_is_a_name(self):
        self.check(is_name, "other", True)
        self.check(is_kind, "other", False)
        self.check(is_kind, "Other", False)
        self.check(is_name, "Other", False)

    def test_the_letters_of_the_other_sort(self):
        self.check(is_kind, "abc", False)
        self.check(is_name, "ABC", False)

    def test_mixed_letters(self):
        for text in ["Ab", "aB", "ABc", "abC", "AbC", "aBc"]:
            self.check(is_kind, text, False)
            self.check(is_name, text, False)

    def test_one_wrong_character_at_each_place(self):
        for wrong in "0123456789 \n\t!\"#$&'()*+,-./:;<=>?@[\\]^_`{|}~":
            for word in ["ABC", "abc"]:
                for at in range(4):
                    text = word[:at] + wrong + word[at:]
                    self.check(is_kind, text, False)
                    self.check(is_name, text, False)

    def test_blanks_and_newlines_at_either_end(self):
        for edge in [" ", "\n", "  ", "\n\n", " \n"]:
            for word in ["A", "AB", "a", "ab", "OTHER"]:
                for text in [edge + word, word + edge, edge + word + edge, edge]:
                    self.check(is_kind, text, False)
                    self.check(is_name, text, False)

    def test_letters_of_other_alphabets(self):
        for text in ["\u00c4", "\u00e4", "A\u00c4", "a\u00e4", "\u0391", "\u03b1", "\u00df"]:
            self.check(is_kind, text, False)
            self.check(is_name, text, False)


class Writing(unittest.TestCase):
    def test_ordinary(self):
        self.assertEqual(write_grammar(LISTS), LISTS_TEXT)

    def test_a_rule_without_symbols(self):
        self.assertEqual(write_grammar([("a", [])]), "a:\n")

    def test_six_symbols(self):
        self.assertEqual(write_grammar([("a", ["A", "b", "C", "d", "E", "F"])]), "a: A b C d E F\n")

    def test_the_order_of_the_rules_is_kept(self):
        self.assertEqual(write_grammar([("z", ["Z"]), ("a", []), ("z", [])]), "z: Z\na:\nz:\n")

    def test_all_rules_of_a_full_grammar(self):
        self.assertEqual(write_grammar([("a", ["K" * k]) for k in range(1, 13)] + [("b", ["n" * k]) for k in range(1, 13)]),
                         "".join("a: " + "K" * k + "\n" for k in range(1, 13))
                         + "".join("b: " + "n" * k + "\n" for k in range(1, 13)))


class Reading(unittest.TestCase):
    def check_fault(self, text, error, at):
        with self.assertRaises(MendError) as caught:
            read_grammar(text)
        self.assertIs(caught.exception.__class__, error, text)
        self.assertEqual(caught.exception.at, at, text)

    def check_bad_after(self, line):
        """The line is a fault as the first, as a later and as the 25th line."""
        for many in [0, 1, 3, 23, 24]:
            self.check_fault(lines(many) + line, BadLine, many)

    def test_ordinary(self):
        self.assertEqual(read_grammar(LISTS_TEXT), LISTS)

    def test_the_kinds_of_values(self):
        for rule in read_grammar(LISTS_TEXT):
            self.assertIs(rule.__class__, tuple)
            self.assertEqual([part.__class__ for part in rule], [str, list])

    def test_a_rule_without_symbols(self):
        self.assertEqual(read_grammar("a:\n"), [("a", [])])

    def test_there_and_back(self):
        grammars = [
            LISTS,
            [("a", [])],
            [("a", ["A", "b", "C", "d", "E", "F"])],
            [("a", ["A"] * many) for many in range(7)],
            [("n" * 12, ["K" * 12] * 6), ("n" * 12, ["n" * 12] * 6), ("b", [])],
            [("z", ["z"]), ("a", ["z"]), ("z", ["a"])],
            [("other", ["OTHERS", "other"])],
        ]
        for grammar in grammars:
            self.assertEqual(read_grammar(write_grammar(grammar)), grammar)

    def test_back_and_there(self):
        for text in [LISTS_TEXT, "a:\n", "a: A b C d E F\n", lines(24), "b:\na:\nb: a\n"]:
            self.assertEqual(write_grammar(read_grammar(text)), text)

    def test_24_rules_are_read(self):
        self.assertEqual(len(read_grammar(lines(24))), 24)

    def test_a_long_text(self):
        text = "".join(name * 12 + ":" + " KKKKKKKKKKKK" * 5 + " " + "K" * k + "\n" for name in "nm" for k in range(1, 13))
        self.assertEqual(len(read_grammar(text)), 24)
        self.assertEqual(write_grammar(read_grammar(text)), text)

    def test_the_empty_text(self):
        self.check_fault("", BadLine, 0)

    def test_empty_lines(self):
        self.check_fault("\n", BadLine, 0)
        self.check_fault("\n\n", BadLine, 0)
        self.check_fault("a:\n\n", BadLine, 1)
        self.check_fault("a:\n\nb:\n", BadLine, 1)
        self.check_fault("\na:\n", BadLine, 0)

    def test_a_last_line_without_its_newline(self):
        for line in ["a:", "a: Z", "b: A b C", "a", "A", " ", "a: A"]:
            self.check_bad_after(line)

    def test_blanks(self):
        for line in ["a:  A\n", "a: A  B\n", "a: A \n", "a: \n", "a:  \n", " a: A\n", "a : A\n", " a:\n", "a :\n", " \n"]:
            self.check_bad_after(line)

    def test_colons(self):
        for line in ["a\n", "a A\n", "a A B\n", ":\n", ": A\n", "a:: A\n", "a:A\n", "a:A B\n", "a: A:\n", "a: A: B\n", "a;\n"]:
            self.check_bad_after(line)

    def test_the_number_of_symbols(self):
        self.assertEqual(read_grammar("a: A B C D E F\n"), [("a", ["A", "B", "C", "D", "E", "F"])])
        self.check_bad_after("a: A B C D E F G\n")
        self.check_bad_after("a: A A A A A A A\n")
        self.check_bad_after("a: b b b b b b b b\n")

    def test_other_as_a_symbol(self):
        self.check_bad_after("a: OTHER\n")
        self.check_bad_after("a: A OTHER B\n")
        self.assertEqual(read_grammar("a: OTHERS other\n"), [("a", ["OTHERS", "other"])])

    def test_long_words(self):
        self.check_bad_after("n" * 13 + ": A\n")
        self.check_bad_after("n" * 13 + ":\n")
        self.check_bad_after("a: " + "K" * 13 + "\n")
        self.check_bad_after("a: " + "n" * 13 + "\n")
        self.check_bad_after("a: A " + "K" * 13 + " B\n")

    def test_words_that_are_no_names_and_no_symbols(self):
        for line in ["A: B\n", "Ab: B\n", "a1: B\n", "OTHER: A\n", "a: Ab\n", "a: A1\n", "a: A b2\n", "a: A,B\n", "a-b:\n"]:
            self.check_bad_after(line)

    def test_the_same_rule_again(self):
        self.check_fault("a: A\na: A\n", TakenRule, 1)
        self.check_fault("a:\nb:\na:\n", TakenRule, 2)
        self.check_fault("a: A\nb:\nb: A\na: A\nb:\n", TakenRule, 3)

    def test_rules_that_are_almost_the_same(self):
        text = "a: A B\na: B A\nb: A B\na: A\na: A B B\na:\nb:\n"
        self.assertEqual(write_grammar(read_grammar(text)), text)

    def test_the_25th_line(self):
        self.check_fault(lines(25), TooLarge, 24)
        self.check_fault(lines(26), TooLarge, 24)

    def test_the_25th_line_that_is_also_taken(self):
        self.check_fault(lines(24) + "a: A\n", TakenRule, 24)
        self.check_fault(lines(24) + "a: X\n", TakenRule, 24)

    def test_the_25th_line_that_is_also_bad(self):
        self.check_fault(lines(24) + "a: a1\n", BadLine, 24)
        self.check_fault(lines(24) + "\n", BadLine, 24)
        self.check_fault(lines(24) + "a: A", BadLine, 24)

    def test_faults_after_the_25th_line_do_not_count(self):
        self.check_fault(lines(25) + "a: A\n", TooLarge, 24)
        self.check_fault(lines(25) + "?\n", TooLarge, 24)
        self.check_fault(lines(25) + "b:", TooLarge, 24)

    def test_the_first_line_with_a_fault_counts(self):
        self.check_fault("a:\na:\n?\n", TakenRule, 1)
        self.check_fault("a:\n?\na:\n", BadLine, 1)
        self.check_fault("a:\na:\nb:", TakenRule, 1)
        self.check_fault("?\na:\na:\n" + lines(25), BadLine, 0)
        self.check_fault("b:\nb:\n" + lines(25), TakenRule, 1)

    def test_of_one_line_a_bad_form_counts_before_a_taken_rule(self):
        self.check_fault("a: A\na: A", BadLine, 1)
        self.check_fault("a: A\na: A \n", BadLine, 1)
        self.check_fault("?\n?\n", BadLine, 0)

    def test_all_short_texts(self):
        for many in range(7):
            for parts in itertools.product("aA: \n", repeat=many):
                text = "".join(parts)
                fault = first_fault(text)
                if fault is None:
                    self.assertEqual(write_grammar(read_grammar(text)), text)
                else:
                    self.check_fault(text, *fault)


def first_fault(text):
    """Return the error and the number of the first line with a fault of a short text, or None."""
    found = re.findall("[^\n]*\n|[^\n]+", text)
    for number, line in enumerate(found):
        if not re.fullmatch("[a-z]+:( ([a-z]+|[A-Z]+))*\n", line):
            return BadLine, number
        if line in found[:number]:
            return TakenRule, number
    return None if found else (BadLine, 0)


class Names(unittest.TestCase):
    def test_in_the_order_of_the_first_rules_each_once(self):
        grammar = [("c", []), ("a", ["b"]), ("c", ["a"]), ("b", []), ("a", []), ("c", ["c"])]
        self.assertEqual(names_of(grammar), ["c", "a", "b"])
        self.assertEqual(names_of(LISTS), ["list", "items"])

    def test_names_without_a_rule_are_not_among_them(self):
        self.assertEqual(names_of([("a", ["b", "K", "a"])]), ["a"])

    def test_24_names(self):
        wanted = ["zyxwvutsrqponmlkjihgfedcb"[k] for k in range(24)]
        self.assertEqual(names_of([(name, []) for name in wanted]), wanted)


class NothingIsModified(unittest.TestCase):
    def test_arguments(self):
        grammar = copy.deepcopy(LISTS)
        write_grammar(grammar)
        names_of(grammar)
        self.assertEqual(grammar, LISTS)

    def test_what_is_returned_is_new(self):
        first = read_grammar(LISTS_TEXT)
        first[0][1].append("X")
        first[1][1].append("Y")
        first.clear()
        self.assertEqual(read_grammar(LISTS_TEXT), LISTS)
        names = names_of(LISTS)
        names.clear()
        self.assertEqual(names_of(LISTS), ["list", "items"])

    def test_the_lists_of_one_grammar_are_its_own(self):
        grammar = read_grammar("a: A\nb: A\nc:\nd:\n")
        grammar[0][1].append("X")
        grammar[2][1].append("X")
        self.assertEqual(grammar[1], ("b", ["A"]))
        self.assertEqual(grammar[3], ("d", []))

    def test_after_an_error_all_is_as_before(self):
        with self.assertRaises(TakenRule):
            read_grammar("a:\na:\n")
        self.assertEqual(read_grammar("a:\n"), [("a", [])])
        with self.assertRaises(TooLarge):
            read_grammar(lines(25))
        self.assertEqual(len(read_grammar(lines(24))), 24)


if __name__ == "__main__":
    unittest.main()
