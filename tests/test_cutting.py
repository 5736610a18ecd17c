"""Points 2, 202 to 204 and 206, and leastmend/signs/cutting.py."""

import copy
import inspect
import itertools
import random
import re
import unittest

from leastmend.signs import cutting as module
from leastmend.signs.cutting import cut, difference, kinds_of_signs, match_at
from leastmend.signs.lexicon import is_lexicon

SUMS = ([("NUMBER", "run", "0123456789"), ("PLUS", "word", "+")], " ")


class TheInterface(unittest.TestCase):
    def test_the_functions_and_their_arguments(self):
        wanted = [("match_at", ["pattern", "text", "index"]), ("cut", ["lexicon", "text"]),
                  ("kinds_of_signs", ["signs"]), ("difference", ["old", "new"])]
        for name, arguments in wanted:
            function = getattr(module, name)
            self.assertEqual(function.__module__, "leastmend.signs.cutting")
            self.assertEqual(list(inspect.signature(function).parameters), arguments)


class Matches(unittest.TestCase):
    def check(self, form, wanted_text, text, lengths):
        """The match of the pattern has these lengths at all indexes of the text."""
        found = [match_at(("K", form, wanted_text), text, index) for index in range(len(text))]
        self.assertEqual(found, lengths)

    def test_words(self):
        self.check("word", "ab", "abcabxab", [2, 0, 0, 2, 0, 0, 2, 0])
        self.check("word", "a", "aab", [1, 1, 0])
        self.check("word", "x", "aab", [0, 0, 0])
        self.check("word", "aab", "aab", [3, 0, 0])

    def test_a_word_is_matched_once(self):
        self.check("word", "aa", "aaaa", [2, 2, 2, 0])
        self.check("word", "a", "aaa", [1, 1, 1])

    def test_a_word_beyond_the_end(self):
        self.check("word", "abc", "abcab", [3, 0, 0, 0, 0])
        self.check("word", "ab", "a", [0])
        self.check("word", "w" * 12, "w" * 12, [12] + [0] * 11)
        self.check("word", "w" * 12, "w" * 11, [0] * 11)

    def test_a_word_is_matched_letter_by_letter(self):
        self.check("word", "Ab", "abAbAB", [0, 0, 2, 0, 0, 0])
        self.check("word", ".*", "ab.*", [0, 0, 2, 0])

    def test_runs(self):
        self.check("run", "12", "12a21b", [2, 1, 0, 2, 1, 0])
        self.check("run", "21", "a12", [0, 2, 1])
        self.check("run", "x", "aab", [0, 0, 0])
        self.check("run", "ab", "A", [0])

    def test_a_run_that_ends_with_the_text(self):
        self.check("run", "abc", "xcabba", [0, 5, 4, 3, 2, 1])
        self.check("run", "a", "aaaa", [4, 3, 2, 1])
        self.check("run", "ab", "ab", [2, 1])

    def test_a_run_needs_not_all_of_its_characters(self):
        self.check("run", "0123456789", "7 77", [1, 0, 2, 1])

    def test_a_run_of_400(self):
        self.check("run", "xy", "xy" * 200, list(range(400, 0, -1)))

    def test_newlines_and_blanks(self):
        self.check("word", "a\nb", "a\nb\n", [3, 0, 0, 0])
        self.check("word", "\n", "\n\na", [1, 1, 0])
        self.check("run", "\n ", "a\n \nb", [0, 3, 2, 1, 0])

    def test_the_kind_plays_no_part(self):
        self.assertEqual(match_at(("WORD", "word", "run"), "run", 0), 3)
        self.assertEqual(match_at(("RUN", "run", "word"), "run", 0), 1)


class Cut(unittest.TestCase):
    def check(self, patterns, passed, text, signs):
        self.assertTrue(is_lexicon((patterns, passed)))
        self.assertEqual(cut((patterns, passed), text), signs)

    def test_the_example_of_the_document(self):
        self.check(SUMS[0], " ", "12 +?", [("NUMBER", "12", 0), ("PLUS", "+", 3), ("OTHER", "?", 4)])

    def test_the_kinds_of_values(self):
        for sign in cut(SUMS, "12 +?"):
            self.assertIs(sign.__class__, tuple)
            self.assertEqual([part.__class__ for part in sign], [str, str, int])

    def test_the_empty_text(self):
        self.check(SUMS[0], " ", "", [])
        self.check([], "", "", [])

    def test_passed_characters(self):
        plus = [("PLUS", "word", "+")]
        self.check(plus, " ", " ", [])
        self.check(plus, " ", "   ", [])
        self.check(plus, " \n.", ". \n", [])
        self.check(plus, " ", "  +", [("PLUS", "+", 2)])
        self.check(plus, " ", "+  ", [("PLUS", "+", 0)])
        self.check(plus, " \n", " \n+\n  + +\n", [("PLUS", "+", 2), ("PLUS", "+", 6), ("PLUS", "+", 8)])

    def test_passed_characters_end_a_run_that_lacks_them(self):
        self.check(SUMS[0], " ", "1 2", [("NUMBER", "1", 0), ("NUMBER", "2", 2)])
        self.check(SUMS[0], "", "1 2", [("NUMBER", "1", 0), ("OTHER", " ", 1), ("NUMBER", "2", 2)])

    def test_a_passed_character_within_a_sign(self):
        self.check([("TWO", "word", "a b"), ("BLANK", "run", "x ")], " ", " a b x  a",
                   [("TWO", "a b", 1), ("BLANK", "x  ", 5), ("OTHER", "a", 8)])

    def test_a_passed_character_where_a_pattern_matches(self):
        self.check([("A", "word", "a"), ("AB", "word", "ab"), ("RUN", "run", "a")], "a", "ab a",
                   [("OTHER", "b", 1), ("OTHER", " ", 2)])

    def test_the_longest_match(self):
        words = [("LESS", "word", "<"), ("ATMOST", "word", "<="), ("ARROW", "word", "<=>")]
        for patterns in itertools.permutations(words):
            self.check(list(patterns), " ", "< <= <=> <=<<=>=",
                       [("LESS", "<", 0), ("ATMOST", "<=", 2), ("ARROW", "<=>", 5), ("ATMOST", "<=", 9), ("LESS", "<", 11),
                        ("ARROW", "<=>", 12), ("OTHER", "=", 15)])

    def test_the_longest_match_of_words_and_runs(self):
        patterns = [("IF", "word", "if"), ("NAME", "run", "fi"), ("IFI", "word", "ifi+")]
        for order in itertools.permutations(patterns):
            self.check(list(order), " ", "iff ifi+ ifi f", [("NAME", "iff", 0), ("IFI", "ifi+", 4), ("NAME", "ifi", 9),
                                                             ("NAME", "f", 13)])

    def test_of_several_the_first_one(self):
        word, run = ("IF", "word", "if"), ("NAME", "run", "abcdefghi")
        self.check([word, run], " ", "if iff", [("IF", "if", 0), ("NAME", "iff", 3)])
        self.check([run, word], " ", "if iff", [("NAME", "if", 0), ("NAME", "iff", 3)])

    def test_of_two_words_or_two_runs_the_first_one(self):
        self.check([("B", "word", "x"), ("A", "word", "x")], "", "xx", [("B", "x", 0), ("B", "x", 1)])
        self.check([("A", "word", "x"), ("B", "word", "x")], "", "xx", [("A", "x", 0), ("A", "x", 1)])
        self.check([("B", "run", "xy"), ("A", "run", "zx")], "", "xx", [("B", "xx", 0)])
        self.check([("B", "run", "xy"), ("A", "run", "zx")], "", "xxz", [("A", "xxz", 0)])

    def test_the_first_one_of_several_longest_behind_a_shorter_one(self):
        self.check([("S", "word", "x"), ("B", "word", "xy"), ("A", "run", "yx")], "", "xy", [("B", "xy", 0)])
        self.check([("S", "word", "x"), ("A", "run", "yx"), ("B", "word", "xy")], "", "xy", [("A", "xy", 0)])

    def test_what_nothing_matches(self):
        self.check(SUMS[0], " ", "?!", [("OTHER", "?", 0), ("OTHER", "!", 1)])
        self.check(SUMS[0], " ", "1a?b2", [("NUMBER", "1", 0), ("OTHER", "a", 1), ("OTHER", "?", 2), ("OTHER", "b", 3),
                                          ("NUMBER", "2", 4)])
        self.check([], "", "ab", [("OTHER", "a", 0), ("OTHER", "b", 1)])
        self.check([("AB", "word", "ab")], "", "aab", [("OTHER", "a", 0), ("AB", "ab", 1)])
        self.check([("AB", "word", "ab")], "", "aba", [("AB", "ab", 0), ("OTHER", "a", 2)])

    def test_newlines(self):
        self.check(SUMS[0], " \n", "1\n2\n", [("NUMBER", "1", 0), ("NUMBER", "2", 2)])
        self.check(SUMS[0], " ", "1\n", [("NUMBER", "1", 0), ("OTHER", "\n", 1)])
        self.check([("END", "word", "\n"), ("LINES", "run", "x\n")], "", "\nx\n", [("LINES", "\nx\n", 0)])
        self.check([("END", "word", "\n")], " ", " \n \n", [("END", "\n", 1), ("END", "\n", 3)])

    def test_400_characters(self):
        text = "12 +?" * 80
        wanted = [(kind, part, start + 5 * k) for k in range(80)
                  for kind, part, start in [("NUMBER", "12", 0), ("PLUS", "+", 3), ("OTHER", "?", 4)]]
        self.check(SUMS[0], " ", text, wanted)
        self.check(SUMS[0], " ", "7" * 400, [("NUMBER", "7" * 400, 0)])
        self.check(SUMS[0], " ", "+" * 400, [("PLUS", "+", k) for k in range(400)])
        self.check(SUMS[0], " ", "?" * 400, [("OTHER", "?", k) for k in range(400)])
        self.check(SUMS[0], " ", " " * 400, [])

    def test_somewhat_more_than_400_characters(self):
        self.check(SUMS[0], " ", " " * 410 + "1", [("NUMBER", "1", 410)])

    def test_against_the_words_of_the_document(self):
        """Many small lexicons and texts: what is cut is what the points say, and no character is lost."""
        chosen = random.Random(203)
        for _ in range(3000):
            lexicon = small_lexicon(chosen)
            text = "".join(chosen.choice("aabbcc \n+") for _ in range(chosen.randrange(0, 14)))
            signs = cut(lexicon, text)
            self.assertEqual(signs, all_signs(lexicon, text), (lexicon, text))
            self.check_parts(lexicon[1], text, signs)

    def check_parts(self, passed, text, signs):
        """The signs and the passed characters between them make up the text."""
        end = 0
        for kind, part, start in signs + [("END", "", len(text))]:
            self.assertGreaterEqual(start, end)
            self.assertLessEqual(set(text[end:start]), set(passed))
            self.assertEqual(text[start:start + len(part)], part)
            self.assertTrue(part != "" or kind == "END")
            end = start + len(part)


def small_lexicon(chosen):
    """Return a lexicon of up to five patterns over a few characters."""
    patterns = []
    for _ in range(chosen.randrange(0, 6)):
        if chosen.random() < 0.5:
            text = "".join(chosen.choice("abc \n") for _ in range(chosen.randrange(1, 4)))
            patterns.append((chosen.choice("KLMN"), "word", text))
        else:
            text = "".join(chosen.sample("abc \n", chosen.randrange(1, 4)))
            patterns.append((chosen.choice("KLMN"), "run", text))
    return (patterns, "".join(chosen.sample("a \n+", chosen.randrange(0, 3))))


def all_signs(lexicon, text):
    """Return the signs of a text, found by regular expressions."""
    patterns, passed = lexicon
    signs = []
    start = 0
    while start < len(text):
        if text[start] in passed:
            start += 1
            continue
        found = []
        for number, (kind, form, part) in enumerate(patterns):
            written = re.escape(part) if form == "word" else "[" + re.escape(part) + "]+"
            match = re.match(written, text[start:])
            if match:
                found.append((-match.end(), number, kind))
        length, number, kind = min(found, default=(-1, 0, "OTHER"))
        signs.append((kind, text[start:start - length], start))
        start -= length
    return signs


class KindsOfSigns(unittest.TestCase):
    def test_in_their_order(self):
        self.assertEqual(kinds_of_signs(cut(SUMS, "12 +?+ 3")), ["NUMBER", "PLUS", "OTHER", "PLUS", "NUMBER"])

    def test_no_signs(self):
        self.assertEqual(kinds_of_signs([]), [])

    def test_texts_and_starts_play_no_part(self):
        self.assertEqual(kinds_of_signs([("B", "A", 7), ("A", "B", 3), ("B", "B", 0)]), ["B", "A", "B"])


def signs_of(letters, first=0, step=1):
    """Return a sign for each letter, at starts with this step between them."""
    return [("K", letter, first + step * k) for k, letter in enumerate(letters)]


class Difference(unittest.TestCase):
    def check(self, old, new, wanted):
        found = difference(signs_of(old), signs_of(new, 5, 3))
        self.assertEqual(found, wanted)
        self.assertIs(found.__class__, tuple)

    def test_equal_lists(self):
        self.check("a", "a", (1, 1, 1))
        self.check("abc", "abc", (3, 3, 3))
        self.check("aaa", "aaa", (3, 3, 3))

    def test_empty_lists(self):
        self.check("", "", (0, 0, 0))
        self.check("", "abc", (0, 0, 3))
        self.check("abc", "", (0, 3, 0))

    def test_one_list_is_the_beginning_of_the_other(self):
        self.check("ab", "abcd", (2, 2, 4))
        self.check("abcd", "ab", (2, 4, 2))

    def test_one_list_is_the_end_of_the_other(self):
        self.check("cd", "abcd", (0, 0, 2))
        self.check("abcd", "cd", (0, 2, 0))

    def test_signs_in_the_middle(self):
        self.check("abcd", "abxcd", (2, 2, 3))
        self.check("abxcd", "abcd", (2, 3, 2))
        self.check("abcd", "axyzd", (1, 3, 4))
        self.check("abcd", "axcd", (1, 2, 2))

    def test_nothing_alike(self):
        self.check("abc", "xy", (0, 3, 2))
        self.check("ab", "ba", (0, 2, 2))

    def test_repeated_signs(self):
        self.check("aa", "aaa", (2, 2, 3))
        self.check("aaa", "aa", (2, 3, 2))
        self.check("aaa", "a", (1, 3, 1))
        self.check("aba", "ababa", (3, 3, 5))
        self.check("ababa", "aba", (3, 5, 3))
        self.check("aab", "ab", (1, 2, 1))
        self.check("ab", "aab", (1, 1, 2))
        self.check("abab", "ab", (2, 4, 2))
        self.check("abb", "ab", (2, 3, 2))
        self.check("abcabc", "abc", (3, 6, 3))
        self.check("xaax", "xaaax", (3, 3, 4))

    def test_only_the_starts_are_different(self):
        old = [("K", "a", 0), ("L", "b", 1), ("K", "c", 2)]
        new = [("K", "a", 9), ("L", "b", 0), ("K", "c", 9)]
        self.assertEqual(difference(old, new), (3, 3, 3))

    def test_other_kinds(self):
        old = [("K", "a", 0), ("L", "b", 1), ("M", "c", 2)]
        new = [("K", "a", 0), ("K", "b", 1), ("M", "c", 2)]
        self.assertEqual(difference(old, new), (1, 2, 2))

    def test_other_texts(self):
        old = [("K", "a", 0), ("K", "b", 1), ("K", "c", 2)]
        new = [("K", "a", 0), ("K", "bb", 1), ("K", "c", 3)]
        self.assertEqual(difference(old, new), (1, 2, 2))

    def test_kind_and_text_are_not_mixed_up(self):
        self.assertEqual(difference([("AB", "C", 0)], [("A", "BC", 0)]), (0, 1, 1))

    def test_of_cut_texts(self):
        self.assertEqual(difference(cut(SUMS, "1 + 2"), cut(SUMS, "  1+2")), (3, 3, 3))
        self.assertEqual(difference(cut(SUMS, "1 + 2"), cut(SUMS, "1 + 33 + 2")), (2, 2, 4))

    def test_against_the_words_of_the_document(self):
        """All pairs of lists of up to five signs, each one of two sorts."""
        texts = ["".join(part) for many in range(6) for part in itertools.product("ab", repeat=many)]
        for old in texts:
            for new in texts:
                self.check(old, new, told_difference(old, new))


def told_difference(old, new):
    """Return the difference of two words, by trying all numbers."""
    both = min(len(old), len(new))
    a = max(many for many in range(both + 1) if old[:many] == new[:many])
    end = max(many for many in range(both - a + 1) if old[len(old) - many:] == new[len(new) - many:])
    return (a, len(old) - end, len(new) - end)


class NothingIsModified(unittest.TestCase):
    def test_arguments(self):
        lexicon = copy.deepcopy(SUMS)
        signs, others = signs_of("abcab"), signs_of("abab", 3)
        cut(lexicon, "12 +?")
        match_at(lexicon[0][0], "12", 0)
        kinds_of_signs(signs)
        difference(signs, others)
        self.assertEqual(lexicon, SUMS)
        self.assertEqual(signs, signs_of("abcab"))
        self.assertEqual(others, signs_of("abab", 3))

    def test_what_is_returned_is_new(self):
        signs = cut(SUMS, "1+1")
        kinds = kinds_of_signs(signs)
        kinds.clear()
        self.assertEqual(kinds_of_signs(signs), ["NUMBER", "PLUS", "NUMBER"])
        signs.clear()
        self.assertEqual(cut(SUMS, "1+1"), [("NUMBER", "1", 0), ("PLUS", "+", 1), ("NUMBER", "1", 2)])


if __name__ == "__main__":
    unittest.main()
