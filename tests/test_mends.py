"""Points 2 and 404 to 406, and leastmend/trees/mends.py."""

import copy
import inspect
import itertools
import random
import unittest

from leastmend.errors import BadMend, MendError
from leastmend.signs.cutting import cut, kinds_of_signs
from leastmend.tables.table import table
from leastmend.trees import mends as module
from leastmend.trees.best import told_mending
from leastmend.trees.mends import make_mends, mended_row, mended_text, mends, mends_price
from test_table import LISTS, PLAIN, some_prices, some_row, sound_grammar
from told import all_trees, told_mends


class TheInterface(unittest.TestCase):
    def test_the_functions_and_their_arguments(self):
        wanted = [("mends", ["row", "m", "tree"]), ("mends_price", ["prices", "row", "found"]), ("mended_row", ["tree"]),
                  ("make_mends", ["row", "found"]), ("mended_text", ["lexicon", "signs", "m", "tree"])]
        for name, arguments in wanted:
            function = getattr(module, name)
            self.assertEqual(function.__module__, "leastmend.trees.mends")
            self.assertEqual(list(inspect.signature(function).parameters), arguments)


def leaf(kind, i, j):
    """Return a leaf."""
    return ("leaf", kind, i, j)


def tree(name, rule, i, j, *parts):
    """Return a tree."""
    return ("tree", name, rule, i, j, list(parts))


def row_tree(*leaves):
    """Return a tree of the leaves alone."""
    return tree("a", 0, leaves[0][2] if leaves else 0, leaves[-1][3] if leaves else 0, *leaves)


class Mends(unittest.TestCase):
    def check(self, row, m, one, wanted):
        """These are the mends, and they lead from the row to the mended row."""
        found = mends(row, m, one)
        self.assertEqual(found, wanted)
        self.assertIs(found.__class__, list)
        self.assertEqual(found, told_mends(PLAIN, row, m, one)[0])
        self.assertEqual(make_mends(row, found), mended_row(one))

    def test_nothing_to_mend(self):
        self.check([], 0, tree("a", 0, 0, 0), [])
        self.check(["A", "B"], 2, row_tree(leaf("A", 0, 1), leaf("B", 1, 2)), [])

    def test_signs_that_are_put_in(self):
        row = ["A", "B"]
        self.check(row, 2, row_tree(leaf("C", 0, 0), leaf("A", 0, 1), leaf("B", 1, 2)), [("put", 0, "C")])
        self.check(row, 2, row_tree(leaf("A", 0, 1), leaf("C", 1, 1), leaf("B", 1, 2)), [("put", 1, "C")])
        self.check(row, 2, row_tree(leaf("A", 0, 1), leaf("B", 1, 2), leaf("C", 2, 2)), [("put", 2, "C")])
        self.check([], 0, row_tree(leaf("C", 0, 0)), [("put", 0, "C")])

    def test_several_signs_that_are_put_in_before_the_same_one(self):
        row = ["A"]
        self.check(row, 1, row_tree(leaf("C", 0, 0), leaf("A", 0, 0), leaf("B", 0, 0), leaf("A", 0, 1)),
                   [("put", 0, "C"), ("put", 0, "A"), ("put", 0, "B")])
        self.check(row, 1, row_tree(leaf("A", 0, 1), leaf("C", 1, 1), leaf("B", 1, 1)), [("put", 1, "C"), ("put", 1, "B")])

    def test_a_sign_of_the_kind_that_stands_there_is_put_in(self):
        self.check(["A"], 1, row_tree(leaf("A", 0, 0), leaf("A", 0, 1)), [("put", 0, "A")])
        self.check(["A"], 1, row_tree(leaf("A", 0, 1), leaf("A", 1, 1)), [("put", 1, "A")])

    def test_signs_that_are_exchanged(self):
        self.check(["X"], 1, row_tree(leaf("A", 0, 1)), [("change", 0, "A")])
        self.check(["A", "OTHER", "A"], 3, row_tree(leaf("A", 0, 1), leaf("B", 1, 2), leaf("A", 2, 3)), [("change", 1, "B")])

    def test_signs_that_are_left_out_before_one_that_is_kept(self):
        self.check(["X", "A"], 2, row_tree(leaf("A", 0, 2)), [("out", 0)])
        self.check(["A", "A", "A", "A"], 4, row_tree(leaf("A", 0, 1), leaf("A", 1, 4)), [("out", 1), ("out", 2)])

    def test_signs_that_are_left_out_before_one_that_is_exchanged(self):
        self.check(["X", "Y"], 2, row_tree(leaf("A", 0, 2)), [("out", 0), ("change", 1, "A")])
        self.check(["A", "A", "B"], 3, row_tree(leaf("A", 0, 3)), [("out", 0), ("out", 1), ("change", 2, "A")])

    def test_signs_behind_the_tree(self):
        self.check(["A", "B", "OTHER"], 1, row_tree(leaf("A", 0, 1)), [("out", 1), ("out", 2)])
        self.check(["A", "B"], 0, tree("a", 0, 0, 0), [("out", 0), ("out", 1)])
        self.check(["A", "B"], 0, row_tree(leaf("A", 0, 0)), [("put", 0, "A"), ("out", 0), ("out", 1)])

    def test_the_order(self):
        row = ["X", "A", "Y", "B", "Z"]
        one = row_tree(leaf("A", 0, 2), leaf("B", 2, 2), leaf("C", 2, 3), leaf("B", 3, 4), leaf("B", 4, 4))
        self.check(row, 4, one, [("out", 0), ("put", 2, "B"), ("change", 2, "C"), ("put", 4, "B"), ("out", 4)])

    def test_trees_within_trees(self):
        row = ["OPEN", "X", "OPEN"]
        inner = tree("list", 0, 1, 3, leaf("OPEN", 1, 3), tree("items", 1, 3, 3), leaf("CLOSE", 3, 3))
        items = tree("items", 2, 1, 3, inner, tree("items", 1, 3, 3))
        one = tree("list", 0, 0, 3, leaf("OPEN", 0, 1), items, leaf("CLOSE", 3, 3))
        self.check(row, 3, one, [("out", 1), ("put", 3, "CLOSE"), ("put", 3, "CLOSE")])
        self.assertEqual(mended_row(one), ["OPEN", "OPEN", "CLOSE", "CLOSE"])

    def test_all_trees_of_small_rows(self):
        """The mends, their price and the mended row of many whole mendings, told ones and others."""
        chosen = random.Random(407)
        for _ in range(300):
            grammar, prices, row = sound_grammar(chosen, 5, 3), some_prices(chosen), some_row(chosen, 4)
            price, _, m, one = told_mending(grammar, prices, row, table(grammar, prices, row))
            found = [(m, one)]
            for m in range(len(row) + 1):
                found.extend((m, other) for other in itertools.islice(all_trees(grammar, row, grammar[0][0], 0, m), 5))
            prices_of_all = []
            for m, one in found:
                wanted = told_mends(prices, row, m, one)
                self.assertEqual(mends(row, m, one), wanted[0])
                self.assertEqual(mended_row(one), wanted[1])
                self.assertEqual(make_mends(row, wanted[0]), wanted[1])
                self.assertEqual(mends_price(prices, row, wanted[0]), wanted[2])
                prices_of_all.append(wanted[2])
            self.assertEqual(prices_of_all[0], price)
            self.assertEqual(min(prices_of_all), price)

    def test_trees_that_are_nested_deep(self):
        one = tree("items", 1, 0, 0)
        for _ in range(3000):
            one = tree("items", 2, 0, 0, tree("list", 0, 0, 0, leaf("OPEN", 0, 0), one, leaf("CLOSE", 0, 0)), tree("items", 1, 0, 0))
        self.assertEqual(mended_row(one), ["OPEN"] * 3000 + ["CLOSE"] * 3000)
        self.assertEqual(mends(["X"], 0, one), [("put", 0, kind) for kind in mended_row(one)] + [("out", 0)])
        lexicon = ([("OPEN", "word", "("), ("CLOSE", "word", ")")], " ")
        self.assertEqual(mended_text(lexicon, [], 0, one), " ".join("(" * 3000 + ")" * 3000))


class MendedRow(unittest.TestCase):
    def test_the_kinds_of_the_leaves(self):
        self.assertEqual(mended_row(tree("a", 0, 0, 0)), [])
        self.assertEqual(mended_row(tree("a", 0, 0, 0, tree("b", 1, 0, 0), tree("b", 1, 0, 0))), [])
        self.assertEqual(mended_row(row_tree(leaf("B", 0, 3), leaf("A", 3, 3), leaf("B", 3, 4))), ["B", "A", "B"])
        one = tree("a", 0, 0, 0, tree("b", 1, 0, 0, leaf("A", 0, 0), leaf("B", 0, 0)), leaf("C", 0, 0), tree("b", 2, 0, 0, leaf("D", 0, 0)))
        self.assertEqual(mended_row(one), ["A", "B", "C", "D"])

    def test_it_is_mended_for_nothing(self):
        """The grammar derives each mended row, so nothing is left to mend in it."""
        chosen = random.Random(408)
        for _ in range(150):
            grammar, prices, row = sound_grammar(chosen), some_prices(chosen), some_row(chosen, 5)
            found = mended_row(told_mending(grammar, prices, row, table(grammar, prices, row))[3])
            if len(found) <= 12:
                price, _, m, one = told_mending(grammar, prices, found, table(grammar, prices, found))
                self.assertEqual((price, m, mended_row(one), mends(found, m, one)), (0, len(found), found, []))


class MendsPrice(unittest.TestCase):
    def check(self, prices, row, wanted):
        """Each mend has its price, and all of them have the sum of these."""
        for found, price in wanted:
            self.assertEqual(mends_price(prices, row, [found]), price)
        self.assertEqual(mends_price(prices, row, [found for found, _ in wanted]), sum(price for _, price in wanted))

    def test_nothing(self):
        self.assertEqual(mends_price(PLAIN, [], []), 0)
        self.assertEqual(mends_price(PLAIN, ["A"], []), 0)

    def test_each_form(self):
        self.check(PLAIN, ["A", "OTHER"], [(("out", 0), 2), (("put", 1, "B"), 3), (("change", 1, "B"), 4), (("put", 2, "A"), 3)])

    def test_exceptions(self):
        prices = (3, 2, 4, {("put", "A"): 7, ("out", "B"): 11, ("change", "C", "A"): 13, ("out", "OTHER"): 17, ("change", "OTHER", "B"): 19})
        row = ["B", "C", "OTHER"]
        self.check(prices, row, [(("put", 0, "A"), 7), (("out", 0), 11), (("change", 1, "A"), 13), (("out", 2), 17)])
        self.check(prices, row, [(("put", 0, "B"), 3), (("change", 0, "A"), 4), (("out", 1), 2), (("change", 2, "B"), 19), (("put", 3, "A"), 7)])
        self.check(prices, row, [(("change", 1, "B"), 4), (("change", 2, "A"), 4)])

    def test_a_sign_that_is_exchanged_for_its_own_kind(self):
        self.assertEqual(mends_price(PLAIN, ["A"], [("change", 0, "A")]), 0)


class MakeMends(unittest.TestCase):
    def check(self, row, found, wanted):
        made = make_mends(row, found)
        self.assertEqual(made, wanted)
        self.assertIs(made.__class__, list)

    def fails(self, row, found, at):
        """The mend at this place is the first one that cannot be made."""
        with self.assertRaises(BadMend) as caught:
            make_mends(row, found)
        self.assertIs(caught.exception.__class__, BadMend)
        self.assertIsInstance(caught.exception, MendError)
        self.assertEqual(caught.exception.at, at)

    def test_nothing(self):
        self.check([], [], [])
        self.check(["A", "B"], [], ["A", "B"])

    def test_each_form(self):
        row = ["A", "B", "C"]
        for k in range(3):
            self.check(row, [("out", k)], row[:k] + row[k + 1:])
            self.check(row, [("put", k, "D")], row[:k] + ["D"] + row[k:])
            self.check(row, [("change", k, "D")], row[:k] + ["D"] + row[k + 1:])
        self.check(row, [("put", 3, "D")], row + ["D"])
        self.check([], [("put", 0, "D")], ["D"])

    def test_all_indexes_are_those_of_the_first_row(self):
        row = ["A", "B", "C", "D"]
        self.check(row, [("out", 0), ("out", 2)], ["B", "D"])
        self.check(row, [("put", 0, "X"), ("put", 2, "Y"), ("put", 4, "Z")], ["X", "A", "B", "Y", "C", "D", "Z"])
        self.check(row, [("out", 0), ("change", 1, "X"), ("put", 2, "Y"), ("change", 3, "Z")], ["X", "Y", "C", "Z"])
        self.check(row, [("out", 0), ("out", 1), ("out", 2), ("out", 3)], [])

    def test_equal_indexes(self):
        row = ["A", "B"]
        self.check(row, [("put", 1, "X"), ("put", 1, "Y"), ("put", 1, "X")], ["A", "X", "Y", "X", "B"])
        self.check(row, [("put", 1, "X"), ("out", 1)], ["A", "X"])
        self.check(row, [("put", 1, "X"), ("change", 1, "Y")], ["A", "X", "Y"])
        self.check(row, [("put", 2, "X"), ("put", 2, "Y")], ["A", "B", "X", "Y"])
        self.check(row, [("out", 1), ("put", 2, "X"), ("put", 2, "Y")], ["A", "X", "Y"])

    def test_an_index_below_0(self):
        for mend in [("put", -1, "A"), ("out", -1), ("change", -1, "A"), ("out", -2), ("put", -2 ** 40, "A")]:
            self.fails(["A", "B"], [mend], 0)
            self.fails([], [mend], 0)
            self.fails(["A", "B"], [("put", 0, "C"), mend], 1)

    def test_an_index_beyond_the_row(self):
        for mend in [("put", 3, "A"), ("out", 2), ("out", 3), ("change", 2, "A"), ("change", 3, "A"), ("out", 2 ** 40)]:
            self.fails(["A", "B"], [mend], 0)
            self.fails(["A", "B"], [("out", 0), mend], 1)
        self.fails([], [("out", 0)], 0)
        self.fails([], [("change", 0, "A")], 0)
        self.fails([], [("put", 1, "A")], 0)
        self.fails(["A", "B"], [("put", 2, "A"), ("out", 2)], 1)
        self.fails(["A", "B"], [("put", 2, "A"), ("change", 2, "A")], 1)

    def test_an_index_that_is_less_than_the_one_before(self):
        row = ["A", "B", "C"]
        for first, second in itertools.product([("put", 2, "D"), ("out", 2), ("change", 2, "D")],
                                               [("put", 1, "D"), ("out", 1), ("change", 1, "D"), ("out", 0)]):
            self.fails(row, [first, second], 1)
            self.fails(row, [("put", 0, "A"), first, second], 2)

    def test_an_index_of_a_sign_that_is_done_with(self):
        row = ["A", "B", "C"]
        for first, second in itertools.product([("out", 1), ("change", 1, "D")], [("put", 1, "D"), ("out", 1), ("change", 1, "D")]):
            self.fails(row, [first, second], 1)
            self.fails(row, [("put", 1, "D"), first, second], 2)

    def test_the_first_one_counts(self):
        row = ["A", "B", "C"]
        self.fails(row, [("out", 1), ("out", 0), ("out", 9)], 1)
        self.fails(row, [("out", 9), ("out", 0), ("out", -1)], 0)
        self.fails(row, [("out", 0), ("out", 1), ("put", 2, "A"), ("out", 2), ("put", 3, "A"), ("out", 3), ("out", 1)], 5)
        self.fails(row, [("put", 3, "A"), ("put", 3, "A"), ("put", 2, "A"), ("put", 3, "A")], 2)

    def test_all_short_lists_of_mends(self):
        """Each list of up to three mends of a row of two signs fails just where the document says."""
        row = ["A", "B"]
        mends_there = [("out", k) for k in range(-1, 4)] + [(word, k, "C") for word in ["put", "change"] for k in range(-1, 4)]
        for many in range(4):
            for found in itertools.product(mends_there, repeat=many):
                wanted = next((k for k in range(many) if self.is_bad(row, found, k)), None)
                if wanted is None:
                    self.check(row, list(found), self.made(row, found))
                else:
                    self.fails(row, list(found), wanted)

    def is_bad(self, row, found, k):
        """Tell whether the mend at the place k cannot be made if those before it can."""
        word, index = found[k][:2]
        if index < 0 or index > len(row) or (index == len(row) and word != "put"):
            return True
        if k == 0:
            return False
        return index < found[k - 1][1] or (index == found[k - 1][1] and found[k - 1][0] != "put")

    def made(self, row, found):
        """Return the row after the mends, made from the last one to the first one."""
        made = list(row)
        for mend in found[::-1]:
            k = mend[1]
            made[k:k if mend[0] == "put" else k + 1] = [] if mend[0] == "out" else [mend[2]]
        return made


LEXICON = ([("NUMBER", "run", "9081"), ("PLUS", "word", "+"), ("PLUS", "word", "plus"), ("OPEN", "word", "("),
            ("CLOSE", "word", ")"), ("WORD", "word", "none"), ("WORD", "run", "abc"), ("MARK", "run", "~!?"), ("MARK", "word", "!!")], " \n")


class MendedText(unittest.TestCase):
    def check(self, text, m, one, wanted):
        self.assertEqual(mended_text(LEXICON, cut(LEXICON, text), m, one), wanted)

    def test_nothing_at_all(self):
        self.check("", 0, tree("a", 0, 0, 0), "")
        self.check("1 + 1", 0, tree("a", 0, 0, 0), "")

    def test_signs_that_are_kept(self):
        self.check("18plus\n 0", 3, row_tree(leaf("NUMBER", 0, 1), leaf("PLUS", 1, 2), leaf("NUMBER", 2, 3)), "18 plus 0")
        self.check("cab!~", 2, row_tree(leaf("WORD", 0, 1), leaf("MARK", 1, 2)), "cab !~")
        self.check("(", 1, row_tree(leaf("OPEN", 0, 1)), "(")

    def test_signs_that_are_put_in(self):
        self.check("", 0, row_tree(*[leaf(kind, 0, 0) for kind in ["NUMBER", "PLUS", "WORD", "MARK", "OPEN"]]), "0 + none ! (")
        self.check("9", 1, row_tree(leaf("OPEN", 0, 0), leaf("NUMBER", 0, 1), leaf("CLOSE", 1, 1)), "( 9 )")
        self.check("9", 1, row_tree(leaf("NUMBER", 0, 0), leaf("NUMBER", 0, 1)), "0 9")
        self.check("9", 1, row_tree(leaf("NUMBER", 0, 1), leaf("NUMBER", 1, 1)), "9 0")

    def test_signs_that_are_exchanged(self):
        self.check("9 9 x", 3, row_tree(leaf("NUMBER", 0, 1), leaf("PLUS", 1, 2), leaf("NUMBER", 2, 3)), "9 + 0")
        self.check("plus", 1, row_tree(leaf("MARK", 0, 1)), "!")

    def test_signs_that_are_left_out(self):
        self.check("+ 1 plus 8", 4, row_tree(leaf("NUMBER", 0, 2), leaf("NUMBER", 2, 4)), "1 8")
        self.check("+ 1 plus 8", 2, row_tree(leaf("NUMBER", 0, 2)), "1")
        self.check("( ( plus", 3, row_tree(leaf("PLUS", 0, 3)), "plus")
        self.check("( plus (", 3, row_tree(leaf("PLUS", 0, 3)), "+")

    def test_the_first_pattern_of_the_kind(self):
        one = row_tree(leaf("K", 0, 0))
        for patterns, wanted in [([("K", "word", "zz"), ("K", "word", "a")], "zz"), ([("K", "run", "zyx"), ("K", "word", "a")], "x"),
                                 ([("L", "word", "b"), ("K", "word", "a"), ("K", "run", "zyx")], "a"), ([("K", "run", "~ \n!")], "\n"),
                                 ([("KK", "word", "b"), ("K", "run", "aA0")], "0"), ([("K", "word", "two words")], "two words")]:
            self.assertEqual(mended_text((patterns, ""), [], 0, one), wanted)

    def test_trees_within_trees(self):
        inner = tree("list", 0, 1, 2, leaf("OPEN", 1, 2), tree("items", 1, 2, 2), leaf("CLOSE", 2, 2))
        items = tree("items", 2, 1, 2, inner, tree("items", 1, 2, 2))
        self.check("( (", 2, tree("list", 0, 0, 2, leaf("OPEN", 0, 1), items, leaf("CLOSE", 2, 2)), "( ( ) )")

    def test_told_mendings_of_texts(self):
        """The mended text, cut again, has the mended row."""
        chosen = random.Random(409)
        lexicon = ([("OPEN", "word", "("), ("CLOSE", "run", ")"), ("CLOSE", "word", "end")], " ")
        for _ in range(100):
            text = "".join(chosen.choice(["(", ")", " ", "end", "x"]) for _ in range(chosen.randrange(0, 9)))
            signs = cut(lexicon, text)
            row = kinds_of_signs(signs)
            price, _, m, one = told_mending(LISTS, PLAIN, row, table(LISTS, PLAIN, row))
            found = mended_text(lexicon, signs, m, one)
            self.assertEqual(kinds_of_signs(cut(lexicon, found)), mended_row(one))
            if price == 0:
                self.assertEqual(found, " ".join(sign[1] for sign in signs))


class NothingIsModified(unittest.TestCase):
    def setUp(self):
        self.signs = cut(LEXICON, "( x ) )")
        self.row = kinds_of_signs(self.signs)
        self.prices = (3, 2, 4, {("out", "OTHER"): 1})
        items = tree("items", 1, 1, 1)
        self.tree = tree("list", 0, 0, 3, leaf("OPEN", 0, 1), items, leaf("CLOSE", 1, 3))
        self.found = [("out", 1), ("put", 2, "PLUS"), ("out", 3)]

    def all(self):
        """Return what the functions return."""
        return [mends(self.row, 3, self.tree), mends_price(self.prices, self.row, self.found), mended_row(self.tree),
                make_mends(self.row, self.found), make_mends(self.row, []), mended_text(LEXICON, self.signs, 3, self.tree)]

    def test_arguments(self):
        arguments = (LEXICON, self.signs, self.row, self.prices, self.tree, self.found)
        kept = copy.deepcopy(arguments)
        self.all()
        with self.assertRaises(BadMend):
            make_mends(self.row, self.found + [("out", 3)])
        self.assertEqual(arguments, kept)

    def test_what_is_returned_is_new(self):
        first = self.all()
        kept = copy.deepcopy(first)
        for one in first:
            if isinstance(one, list):
                one.append("more")
        self.assertEqual(self.all(), kept)
        self.assertEqual(self.row, ["OPEN", "OTHER", "CLOSE", "CLOSE"])


if __name__ == "__main__":
    unittest.main()
