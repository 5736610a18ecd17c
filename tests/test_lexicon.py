"""Points 2, 201 and 205, and leastmend/signs/lexicon.py."""

import copy
import inspect
import unittest

from leastmend.errors import BadKinds, MendError
from leastmend.signs import lexicon as module
from leastmend.signs.lexicon import is_lexicon, kinds_of

CHARACTERS = "\n" + "".join(chr(code) for code in range(32, 127) if code != 37)
SUMS = ([("NUMBER", "run", "0123456789"), ("PLUS", "word", "+"), ("WORD", "word", "plus"), ("PLUS", "word", "and")], " \n")


def with_pattern(kind, form, text):
    """Return a tuple with this pattern between two others."""
    return ([("A", "word", "a"), (kind, form, text), ("B", "run", "b")], " ")


class TheInterface(unittest.TestCase):
    def test_the_functions_and_their_arguments(self):
        for name in ["is_lexicon", "kinds_of"]:
            function = getattr(module, name)
            self.assertEqual(function.__module__, "leastmend.signs.lexicon")
            self.assertEqual(list(inspect.signature(function).parameters), ["lexicon"])


class Lexicons(unittest.TestCase):
    def check(self, lexicon, wanted):
        self.assertIs(is_lexicon(lexicon), wanted, lexicon)

    def check_pattern(self, kind, form, text, wanted):
        """The pattern alone and between others is one, or is none."""
        self.check(([(kind, form, text)], ""), wanted)
        self.check(with_pattern(kind, form, text), wanted)

    def test_ordinary(self):
        self.check(SUMS, True)

    def test_no_pattern(self):
        self.check(([], ""), True)
        self.check(([], " "), True)

    def test_the_number_of_patterns(self):
        for many, wanted in [(1, True), (19, True), (20, True), (21, False), (22, False), (40, False)]:
            self.check(([("K" * (k % 12 + 1), "word", CHARACTERS[k]) for k in range(many)], ""), wanted)
            self.check(([("K", "run", "k")] * many, " "), wanted)

    def test_kinds(self):
        for kind in ["A", "Z", "AZ", "K" * 12, "OTHERS", "ANOTHER"]:
            for form in ["word", "run"]:
                self.check_pattern(kind, form, "x", True)

    def test_kinds_that_are_none(self):
        for kind in ["", "OTHER", "K" * 13, "a", "other", "Ab", "aB", "A1", "A ", " A", "A\n", "\n", "A-B", "@", "["]:
            for form in ["word", "run"]:
                self.check_pattern(kind, form, "x", False)

    def test_forms_that_are_none(self):
        for form in ["", "Word", "WORD", "words", "wor", "runs", "Run", "RUN", "r", "w", " word", "word ", "run\n", "wordrun"]:
            self.check_pattern("K", form, "x", False)

    def test_the_length_of_a_word(self):
        for many, wanted in [(0, False), (1, True), (2, True), (11, True), (12, True), (13, False), (14, False), (95, False)]:
            self.check_pattern("K", "word", "w" * many, wanted)
            self.check_pattern("K", "word", CHARACTERS[:many], wanted)

    def test_a_word_may_have_a_character_twice(self):
        self.check_pattern("K", "word", "==", True)
        self.check_pattern("K", "word", "abcabcabcabc", True)

    def test_the_length_of_a_run(self):
        self.assertEqual(len(CHARACTERS), 95)
        for many in [1, 2, 12, 13, 94, 95]:
            self.check_pattern("K", "run", CHARACTERS[:many], True)
            self.check_pattern("K", "run", CHARACTERS[-many:], True)
        self.check_pattern("K", "run", "", False)

    def test_a_run_with_a_character_twice(self):
        for text in ["aa", "aba", "abb", "aab", "abcdefghijklmnopqrstuvwxyza", "  ", "\n\n", " \n ", CHARACTERS + "a"]:
            self.check_pattern("K", "run", text, False)

    def test_letters_of_two_sizes_are_two_characters(self):
        self.check_pattern("K", "run", "aA", True)
        self.check(([], "aA"), True)

    def test_passed_characters(self):
        for passed in ["", " ", "\n", " \n", "\n ", "abc", "aA", CHARACTERS]:
            self.check((SUMS[0], passed), True)

    def test_passed_characters_twice(self):
        for passed in ["  ", "\n\n", " \n ", "\n \n", "abcb", "xx", CHARACTERS + " "]:
            self.check((SUMS[0], passed), False)
            self.check(([], passed), False)

    def test_passed_characters_that_stand_in_patterns(self):
        self.check(([("K", "word", " "), ("L", "run", " ")], " "), True)

    def test_several_patterns_of_one_kind(self):
        self.check(([("K", "word", "k"), ("K", "run", "k"), ("K", "word", "kk"), ("K", "run", "xyz")], ""), True)

    def test_the_same_pattern_twice(self):
        self.check(([("K", "word", "k"), ("K", "word", "k")], ""), True)
        self.check(([("K", "run", "ab"), ("L", "word", "x"), ("K", "run", "ab")], ""), True)

    def test_the_same_text_for_several_kinds(self):
        self.check(([("K", "word", "k"), ("L", "word", "k")], ""), True)

    def test_newlines(self):
        self.check_pattern("K", "word", "\n", True)
        self.check_pattern("K", "word", "\n\n", True)
        self.check_pattern("K", "word", "a\nb", True)
        self.check_pattern("K", "run", "\n", True)
        self.check_pattern("K", "run", "a\n", True)
        self.check_pattern("K", "run", "\na\n", False)

    def test_each_character(self):
        for code in range(0, 300):
            wanted = chr(code) in CHARACTERS
            self.check_pattern("K", "word", chr(code), wanted)
            self.check_pattern("K", "run", chr(code), wanted)
            self.check(([], chr(code)), wanted)

    def test_each_pattern_counts(self):
        good, bad = ("K", "word", "k"), ("K", "word", "")
        for at in range(20):
            self.check(([good] * at + [bad] + [good] * (19 - at), ""), False)


class Kinds(unittest.TestCase):
    def test_ascending_each_once(self):
        self.assertEqual(kinds_of(SUMS), ["NUMBER", "PLUS", "WORD"])

    def test_the_order_is_that_of_the_kinds(self):
        lexicon = ([(kind, "word", "x") for kind in ["B", "AB", "ABC", "C", "A", "BA", "B", "A", "OTHERS"]], "")
        self.assertEqual(kinds_of(lexicon), ["A", "AB", "ABC", "B", "BA", "C", "OTHERS"])

    def test_no_pattern(self):
        self.assertEqual(kinds_of(([], " ")), [])

    def test_20_kinds(self):
        kinds = ["TSRQPONMLKJIHGFEDCBA"[k] for k in range(20)]
        self.assertEqual(kinds_of(([(kind, "run", "x") for kind in kinds], "")), sorted(kinds))

    def test_what_is_not_a_lexicon(self):
        good = ("K", "word", "k")
        bad = [
            ([good] * 21, ""),
            ([("OTHER", "word", "k")], ""),
            ([("k", "word", "k")], ""),
            ([("K", "words", "k")], ""),
            ([("K", "word", "")], ""),
            ([("K", "word", "k" * 13)], ""),
            ([good, ("K", "run", "")], ""),
            ([good, ("K", "run", "kk")], ""),
            ([good], "  "),
        ]
        for lexicon in bad:
            kept = copy.deepcopy(lexicon)
            with self.assertRaises(MendError) as caught:
                kinds_of(lexicon)
            self.assertIs(caught.exception.__class__, BadKinds)
            self.assertEqual(caught.exception.at, 0)
            self.assertEqual(lexicon, kept)


class NothingIsModified(unittest.TestCase):
    def test_arguments(self):
        lexicon = copy.deepcopy(SUMS)
        is_lexicon(lexicon)
        kinds_of(lexicon)
        self.assertEqual(lexicon, SUMS)

    def test_what_is_returned_is_new(self):
        kinds = kinds_of(SUMS)
        kinds.clear()
        kinds.append("X")
        self.assertEqual(kinds_of(SUMS), ["NUMBER", "PLUS", "WORD"])


if __name__ == "__main__":
    unittest.main()
