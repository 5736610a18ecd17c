"""Points 2 and 301 to 304, and leastmend/tables/prices.py."""

import copy
import inspect
import itertools
import unittest

from leastmend.tables import prices as module
from leastmend.tables.prices import change_price, is_prices, leaf_price, out_price, put_price

PLAIN = (3, 2, 4, {})
SPECIAL = (30, 20, 40, {
    ("put", "A"): 1, ("put", "C"): 1000,
    ("out", "B"): 2, ("out", "OTHER"): 900,
    ("change", "A", "B"): 3, ("change", "OTHER", "A"): 4, ("change", "C", "B"): 5,
})
ALLOWED = [
    ("put", "A"), ("put", "K" * 12), ("put", "OTHERS"),
    ("out", "A"), ("out", "K" * 12), ("out", "OTHER"),
    ("change", "A", "B"), ("change", "B", "A"), ("change", "K" * 12, "L" * 12), ("change", "A", "AA"),
    ("change", "OTHER", "A"), ("change", "OTHER", "OTHERS"),
]
EDGES = [(0, False), (1, True), (2, True), (999, True), (1000, True), (1001, False), (2 ** 32 - 1, False)]


class TheInterface(unittest.TestCase):
    def test_the_functions_and_their_arguments(self):
        wanted = [("is_prices", ["prices"]), ("put_price", ["prices", "kind"]), ("out_price", ["prices", "kind"]),
                  ("change_price", ["prices", "kind", "other_kind"]),
                  ("leaf_price", ["prices", "row", "kind", "i", "j"])]
        for name, arguments in wanted:
            function = getattr(module, name)
            self.assertEqual(function.__module__, "leastmend.tables.prices")
            self.assertEqual(list(inspect.signature(function).parameters), arguments)


class Prices(unittest.TestCase):
    def check(self, prices, wanted):
        self.assertIs(is_prices(prices), wanted, prices)

    def check_key(self, key, wanted):
        """The key alone and between others may stand in prices, or may not."""
        self.check((3, 2, 4, {key: 7}), wanted)
        self.check((3, 2, 4, {("put", "X"): 1, key: 7, ("out", "X"): 1}), wanted)

    def test_ordinary(self):
        self.check(PLAIN, True)
        self.check(SPECIAL, True)

    def test_each_of_the_three_prices(self):
        for price, wanted in EDGES:
            self.check((price, 2, 4, {}), wanted)
            self.check((3, price, 4, {}), wanted)
            self.check((3, 2, price, {}), wanted)
            self.check((price, price, price, {}), wanted)

    def test_the_price_of_each_exception(self):
        for key in ALLOWED:
            for price, wanted in EDGES:
                self.check((3, 2, 4, {key: price}), wanted)
                self.check((3, 2, 4, {("put", "X"): 1, key: price, ("out", "X"): 1000}), wanted)

    def test_each_form_of_key(self):
        for key in ALLOWED:
            self.check_key(key, True)
        self.check((1, 1, 1, {key: 1000 for key in ALLOWED}), True)

    def test_other(self):
        self.check_key(("out", "OTHER"), True)
        self.check_key(("change", "OTHER", "A"), True)
        self.check_key(("put", "OTHER"), False)
        self.check_key(("change", "A", "OTHER"), False)
        self.check_key(("change", "OTHER", "OTHER"), False)

    def test_equal_kinds(self):
        self.check_key(("change", "A", "A"), False)
        self.check_key(("change", "K" * 12, "K" * 12), False)

    def test_kinds_that_are_none(self):
        for kind in ["", "a", "other", "Ab", "A1", "A ", " A", "A\n", "K" * 13, "A,B"]:
            self.check_key(("put", kind), False)
            self.check_key(("out", kind), False)
            self.check_key(("change", kind, "A"), False)
            self.check_key(("change", "A", kind), False)
            self.check_key(("change", kind, kind), False)

    def test_other_words(self):
        for word in ["", "Put", "PUT", "puts", "pu", "Out", "in", "keep", "swap", "changes", "put ", "\n", "A"]:
            self.check_key((word, "A"), False)
            self.check_key((word, "A", "B"), False)

    def test_too_few_and_too_many_texts(self):
        self.check_key((), False)
        for word in ["put", "out", "change"]:
            self.check_key((word,), False)
            self.check_key((word, "A", "B", "C"), False)
            self.check_key((word, "A", "B", ""), False)
        self.check_key(("put", "A", "B"), False)
        self.check_key(("out", "A", "B"), False)
        self.check_key(("change", "A"), False)
        self.check_key(("A",), False)
        self.check_key(("A", "B"), False)
        self.check_key(("A", "put"), False)

    def test_no_exception_hides_another(self):
        bad = {("put", "OTHER"): 1}
        good = {key: 5 for key in ALLOWED}
        self.check((1, 1, 1, {**good, **bad}), False)
        self.check((1, 1, 1, {**bad, **good}), False)


class SinglePrices(unittest.TestCase):
    def test_put(self):
        wanted = {"A": 1, "B": 30, "C": 1000, "D": 30}
        self.assertEqual({kind: put_price(SPECIAL, kind) for kind in wanted}, wanted)
        self.assertEqual(put_price(PLAIN, "A"), 3)

    def test_out(self):
        wanted = {"A": 20, "B": 2, "C": 20, "D": 20, "OTHER": 900}
        self.assertEqual({kind: out_price(SPECIAL, kind) for kind in wanted}, wanted)
        self.assertEqual(out_price(PLAIN, "A"), 2)
        self.assertEqual(out_price(PLAIN, "OTHER"), 2)

    def test_change(self):
        wanted = {("A", "B"): 3, ("B", "A"): 40, ("OTHER", "A"): 4, ("OTHER", "B"): 40, ("C", "B"): 5, ("B", "C"): 40}
        self.assertEqual({pair: change_price(SPECIAL, *pair) for pair in wanted}, wanted)
        self.assertEqual(change_price(PLAIN, "A", "B"), 4)
        self.assertEqual(change_price(PLAIN, "OTHER", "B"), 4)

    def test_equal_kinds_cost_nothing(self):
        for kind in ["A", "B", "C", "D", "K" * 12, "OTHER"]:
            self.assertEqual(change_price(SPECIAL, kind, kind), 0)
            self.assertEqual(change_price(PLAIN, kind, kind), 0)

    def test_an_exception_counts_for_its_own_word_only(self):
        prices = (3, 2, 4, {("put", "A"): 10, ("out", "B"): 20, ("change", "C", "D"): 30})
        self.assertEqual([put_price(prices, kind) for kind in "ABCD"], [10, 3, 3, 3])
        self.assertEqual([out_price(prices, kind) for kind in "ABCD"], [2, 20, 2, 2])
        found = [change_price(prices, one, two) for one, two in itertools.permutations("ABCD", 2)]
        self.assertEqual(sorted(found), [4] * 11 + [30])

    def test_an_exception_may_be_the_general_price_or_greater(self):
        prices = (3, 2, 4, {("put", "A"): 3, ("out", "A"): 1000, ("change", "A", "B"): 1000})
        self.assertEqual((put_price(prices, "A"), out_price(prices, "A"), change_price(prices, "A", "B")), (3, 1000, 1000))


class Leaves(unittest.TestCase):
    def check(self, prices, row, kind, i, j, wanted):
        self.assertEqual(leaf_price(prices, row, kind, i, j), wanted)

    def test_the_empty_stretch(self):
        for i in range(4):
            self.check(PLAIN, ["A", "B", "A"], "A", i, i, 3)
            self.check(SPECIAL, ["A", "B", "A"], "A", i, i, 1)
            self.check(SPECIAL, ["A", "B", "A"], "B", i, i, 30)
        self.check(SPECIAL, [], "C", 0, 0, 1000)

    def test_one_sign_that_is_kept(self):
        self.check(PLAIN, ["A", "B"], "A", 0, 1, 0)
        self.check(PLAIN, ["A", "B"], "B", 1, 2, 0)
        self.check(SPECIAL, ["A", "B"], "B", 1, 2, 0)

    def test_one_sign_that_is_exchanged(self):
        self.check(PLAIN, ["A", "B"], "B", 0, 1, 4)
        self.check(SPECIAL, ["A", "B"], "B", 0, 1, 3)
        self.check(SPECIAL, ["A", "B"], "A", 1, 2, 40)
        self.check(SPECIAL, ["OTHER"], "A", 0, 1, 4)
        self.check(SPECIAL, ["OTHER"], "B", 0, 1, 40)

    def test_an_exchange_is_made_although_others_are_cheaper(self):
        prices = (1, 1, 1000, {})
        self.check(prices, ["A"], "B", 0, 1, 1000)
        self.check(prices, ["A", "A"], "B", 0, 2, 1001)

    def test_several_signs(self):
        self.check(PLAIN, ["A", "B", "C"], "C", 0, 3, 4)
        self.check(PLAIN, ["A", "B", "C"], "A", 0, 3, 8)
        self.check(PLAIN, ["A", "B", "C"], "C", 1, 3, 2)
        self.check(PLAIN, ["A", "B", "C"], "B", 0, 2, 2)
        self.check(PLAIN, ["A", "B", "C"], "C", 0, 2, 6)

    def test_only_the_last_sign_is_kept(self):
        self.check(PLAIN, ["A", "A", "A"], "A", 0, 3, 4)
        self.check(PLAIN, ["A", "B", "B"], "A", 0, 3, 8)

    def test_several_signs_with_exceptions(self):
        row = ["A", "B", "OTHER", "C", "A", "OTHER"]
        self.check(SPECIAL, row, "A", 0, 5, 20 + 2 + 900 + 20 + 0)
        self.check(SPECIAL, row, "B", 0, 5, 20 + 2 + 900 + 20 + 3)
        self.check(SPECIAL, row, "B", 0, 4, 20 + 2 + 900 + 5)
        self.check(SPECIAL, row, "A", 0, 3, 20 + 2 + 4)
        self.check(SPECIAL, row, "B", 1, 6, 2 + 900 + 20 + 20 + 40)
        self.check(SPECIAL, row, "C", 2, 4, 900 + 0)

    def test_a_long_stretch(self):
        self.check(PLAIN, ["A"] * 60, "A", 0, 60, 118)
        self.check(PLAIN, ["A"] * 60, "B", 0, 60, 122)
        self.check(SPECIAL, ["OTHER"] * 60, "A", 0, 60, 900 * 59 + 4)


class NothingIsModified(unittest.TestCase):
    def test_arguments(self):
        prices, row = copy.deepcopy(SPECIAL), ["A", "B", "OTHER"]
        is_prices(prices)
        put_price(prices, "X")
        out_price(prices, "X")
        change_price(prices, "X", "Y")
        leaf_price(prices, row, "X", 0, 3)
        self.assertEqual(prices, SPECIAL)
        self.assertEqual(row, ["A", "B", "OTHER"])


if __name__ == "__main__":
    unittest.main()
