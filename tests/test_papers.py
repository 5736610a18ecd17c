"""Points 2 and 501 to 506, and leastmend/checks/papers.py."""

import copy
import inspect
import itertools
import random
import unittest

from leastmend.checks import papers as module
from leastmend.checks.papers import check_mending, is_bound, tight_paper
from leastmend.tables.table import table
from leastmend.trees.best import told_mending
from test_table import LISTS, PLAIN, SUMS, keys_of, least_of_all_trees, some_prices, some_row, sound_grammar, stretches_of, told_leaf
from told import all_trees, told_cost


class TheInterface(unittest.TestCase):
    def test_the_functions_and_their_arguments(self):
        wanted = [("tight_paper", ["grammar", "prices", "row", "entries"]), ("is_bound", ["grammar", "prices", "row", "paper"]),
                  ("check_mending", ["grammar", "prices", "row", "m", "tree", "paper"])]
        for name, arguments in wanted:
            function = getattr(module, name)
            self.assertEqual(function.__module__, "leastmend.checks.papers")
            self.assertEqual(list(inspect.signature(function).parameters), arguments)


def tight(grammar, prices, row):
    """Return the tight paper of a row."""
    return tight_paper(grammar, prices, row, table(grammar, prices, row))


def with_value(paper, stretch, key, value):
    """Return a paper with another value at one place."""
    whole, bounds = paper
    return (whole, {**bounds, stretch: {**bounds[stretch], key: value}})


def without_value(paper, stretch, key):
    """Return a paper that lacks a value."""
    whole, bounds = paper
    return (whole, {**bounds, stretch: {other: bounds[stretch][other] for other in bounds[stretch] if other != key}})


def left_out(prices, row):
    """Return the price for leaving out all signs of a row."""
    return sum(prices[3].get(("out", kind), prices[1]) for kind in row)


MISSING = "missing"


def told_is_bound(grammar, prices, row, paper):
    """Tell whether a paper is a bound from below, by each inequality as point 503 tells it."""
    whole, bounds = paper
    names = {name for name, _ in grammar}
    infinite = float("inf")
    for stretch, key in itertools.product(stretches_of(row), keys_of(grammar)):
        value = bounds.get(stretch, {}).get(key, MISSING)
        if value == MISSING or (value is not None and value < 0):
            return False

    def value(i, j, *key):
        return infinite if bounds[(i, j)][key] is None else bounds[(i, j)][key]

    def number(symbol, i, j):
        return value(i, j, "name", symbol) if symbol in names else told_leaf(prices, row, symbol, i, j)[0]

    for rule, (name, symbols) in enumerate(grammar):
        for i, j in stretches_of(row):
            if i == j and value(i, j, "rest", rule, len(symbols)) != 0:
                return False
            for dot, symbol in enumerate(symbols):
                for k in range(i, j + 1):
                    if value(i, j, "rest", rule, dot) > number(symbol, i, k) + value(k, j, "rest", rule, dot + 1):
                        return False
            if value(i, j, "name", name) > value(i, j, "rest", rule, 0):
                return False
    return all(whole <= value(0, m, "name", grammar[0][0]) + left_out(prices, row[m:]) for m in range(len(row) + 1))


class TightPaper(unittest.TestCase):
    def test_the_prices_of_the_entries(self):
        for grammar, row in [(LISTS, ["OPEN", "X", "CLOSE", "CLOSE"]), (SUMS, ["NUMBER", "OTHER", "PLUS"]), (LISTS, []),
                             ([("a", ["A", "b"]), ("b", ["c", "c"]), ("c", [])], ["A", "A"])]:
            entries = table(grammar, PLAIN, row)
            whole, bounds = tight_paper(grammar, PLAIN, row, entries)
            self.assertEqual(sorted(bounds), stretches_of(row))
            for stretch in bounds:
                wanted = {key: None if cost is None else cost[0] for key, cost in entries[stretch].items()}
                self.assertEqual(bounds[stretch], wanted)
            self.assertEqual(whole, told_mending(grammar, PLAIN, row, entries)[0])

    def test_the_form(self):
        entries = table(LISTS, PLAIN, ["OPEN"])
        paper = tight_paper(LISTS, PLAIN, ["OPEN"], entries)
        self.assertEqual([part.__class__ for part in paper], [int, dict])
        self.assertIs(paper.__class__, tuple)
        self.assertEqual(paper[0], 3)
        self.assertEqual(paper[1][(0, 1)], {
            ("name", "list"): 3, ("name", "items"): 3, ("rest", 0, 0): 3, ("rest", 0, 1): 4, ("rest", 0, 2): 4,
            ("rest", 0, 3): None, ("rest", 1, 0): None, ("rest", 2, 0): 3, ("rest", 2, 1): 3, ("rest", 2, 2): None})

    def test_the_whole(self):
        for row, whole in [([], 6), (["OPEN", "CLOSE"], 0), (["OPEN", "CLOSE", "X", "X"], 4), (["X"], 7)]:
            self.assertEqual(tight(LISTS, PLAIN, row)[0], whole)

    def test_it_is_a_bound_from_below(self):
        """No tree costs less than the tight paper says, and the check takes it."""
        chosen = random.Random(505)
        for _ in range(150):
            grammar, prices, row = sound_grammar(chosen), some_prices(chosen), some_row(chosen, 4)
            entries = least_of_all_trees(grammar, prices, row)
            paper = tight_paper(grammar, prices, row, entries)
            self.assertIs(is_bound(grammar, prices, row, paper), True)
            self.assertTrue(told_is_bound(grammar, prices, row, paper))
            for i, j in stretches_of(row):
                for one in itertools.islice(all_trees(grammar, row, grammar[0][0], i, j), 5):
                    price = told_cost(prices, row, one)[0]
                    self.assertGreaterEqual(price, paper[1][(i, j)][("name", grammar[0][0])])
                    if i == 0:
                        self.assertGreaterEqual(price + left_out(prices, row[j:]), paper[0])

    def test_60_signs(self):
        row = ["OPEN", "X", "CLOSE", "OTHER", "OPEN", "CLOSE"] * 10
        paper = tight(LISTS, PLAIN, row)
        self.assertIs(is_bound(LISTS, PLAIN, row, paper), True)
        self.assertIs(is_bound(LISTS, PLAIN, row, with_value(paper, (0, 60), ("name", "list"), paper[1][(0, 60)][("name", "list")] + 1)), False)
        self.assertIs(is_bound(LISTS, PLAIN, row, (paper[0] + 1, paper[1])), False)


class IsBound(unittest.TestCase):
    ROW = ["OPEN", "X", "CLOSE"]

    def setUp(self):
        self.paper = tight(LISTS, PLAIN, self.ROW)

    def check(self, wanted, paper, grammar=LISTS, prices=PLAIN, row=None):
        """The paper is a bound from below, or it is none."""
        row = self.ROW if row is None else row
        self.assertIs(told_is_bound(grammar, prices, row, paper), wanted)
        self.assertIs(is_bound(grammar, prices, row, paper), wanted)

    def test_the_tight_paper(self):
        self.check(True, self.paper)

    def test_each_value_that_is_greater_by_one(self):
        """In a tight paper each value is as great as its own inequality lets it be."""
        for (i, j), key in itertools.product(stretches_of(self.ROW), keys_of(LISTS)):
            value = self.paper[1][(i, j)][key]
            if value is not None:
                self.check(False, with_value(self.paper, (i, j), key, value + 1))
                self.check(False, with_value(self.paper, (i, j), key, None))

    def test_a_last_rest_over_nothing(self):
        self.assertEqual(self.paper[1][(1, 1)][("rest", 0, 3)], 0)
        for value in [1, 2 ** 32, None]:
            for i in range(4):
                self.check(False, with_value(self.paper, (i, i), ("rest", 0, 3), value))
                self.check(False, with_value(self.paper, (i, i), ("rest", 1, 0), value))

    def test_a_rest_that_is_greater_by_one(self):
        # Each k is looked at: the least sum is that of one k alone.
        grammar = [("a", ["A", "B"])]
        for row, k in [(["A", "B"], 1), (["A", "A"], 1), (["B", "B"], 0), (["A", "X"], 1)]:
            paper = tight(grammar, (1, 2, 4, {}), row)
            value = paper[1][(0, 2)][("rest", 0, 0)]
            sums = [paper[1][(k, 2)][("rest", 0, 1)] + told_leaf((1, 2, 4, {}), row, "A", 0, k)[0] for k in range(3)]
            self.assertEqual(value, min(sums))
            self.check(False, with_value(paper, (0, 2), ("rest", 0, 0), value + 1), grammar, (1, 2, 4, {}), row)

    def test_a_rest_with_a_name(self):
        grammar = [("a", ["b", "B"]), ("b", ["A"])]
        paper = tight(grammar, PLAIN, ["A", "B"])
        self.assertEqual(paper[1][(0, 2)][("rest", 0, 0)], 0)
        # Where the name has a greater value, so may the rest and the name that are made of it.
        paper = with_value(paper, (0, 2), ("rest", 0, 0), 1)
        self.check(False, paper, grammar, PLAIN, ["A", "B"])
        self.check(False, with_value(paper, (0, 1), ("name", "b"), 1), grammar, PLAIN, ["A", "B"])

    def test_a_name_that_is_greater_by_one(self):
        grammar = [("a", ["A"]), ("a", ["B"])]
        paper = tight(grammar, PLAIN, ["B"])
        self.assertEqual(paper[1][(0, 1)], {("name", "a"): 0, ("rest", 0, 0): 4, ("rest", 1, 0): 0, ("rest", 0, 1): None, ("rest", 1, 1): None})
        self.check(False, with_value(paper, (0, 1), ("name", "a"), 1), grammar, PLAIN, ["B"])
        self.check(False, with_value(paper, (0, 1), ("name", "a"), None), grammar, PLAIN, ["B"])

    def test_the_whole(self):
        grammar = [("a", ["A"]), ("a", [])]
        for row in [[], ["A"], ["X"], ["X", "X"], ["A", "X"], ["X", "A"]]:
            whole, bounds = tight(grammar, PLAIN, row)
            for other in [whole - 100, -1, whole - 1, whole]:
                self.check(True, (min(other, whole), bounds), grammar, PLAIN, row)
            for other in [whole + 1, whole + 100]:
                self.check(False, (other, bounds), grammar, PLAIN, row)

    def test_the_whole_of_each_m(self):
        # The whole is bounded by each m alone, where the values for the other ones are None or great.
        grammar = [("a", ["A"])]
        row = ["A", "A", "A"]
        prices = (3, 2, 4, {})
        whole, bounds = tight(grammar, prices, row)
        self.assertEqual(whole, 4)
        for m in range(4):
            value = bounds[(0, m)][("name", "a")]
            price = value + 2 * (3 - m)
            self.check(price >= 4, (4, bounds), grammar, prices, row)
            less = with_value((4, bounds), (0, m), ("name", "a"), max(value - 1, 0))
            self.check(price - min(value, 1) >= 4, less, grammar, prices, row)
            self.check(False, (price + 1, bounds), grammar, prices, row)

    def test_a_lower_start_value_bounds_the_whole(self):
        grammar = [("a", ["A"])]
        prices = (3, 2, 4, {("out", "B"): 7})
        whole, bounds = tight(grammar, prices, ["A", "B"])
        self.assertEqual(whole, 6)
        self.assertEqual([bounds[(0, m)][("name", "a")] for m in range(3)], [3, 0, 6])
        self.check(False, with_value((whole, bounds), (0, 2), ("name", "a"), 5), grammar, prices, ["A", "B"])
        self.check(True, with_value((5, bounds), (0, 2), ("name", "a"), 5), grammar, prices, ["A", "B"])

    def test_lesser_values(self):
        """Where no value is greater than some number, all inequalities still hold."""
        for most in [0, 1, 2, 3, 5]:
            whole, bounds = self.paper
            less = {stretch: {key: most if value is None else min(value, most) for key, value in found.items()}
                    for stretch, found in bounds.items()}
            self.check(True, (min(whole, most), less))
            self.check(True, (-most, less))
            some = {stretch: {key: None if key[0] == "rest" and bounds[stretch][key] is None else value for key, value in found.items()}
                    for stretch, found in less.items()}
            self.check(True, (min(whole, most), some))

    def test_one_lesser_value(self):
        # A name in a rule that nothing cheap is made of may have any lower value.
        grammar = [("a", ["A"]), ("a", ["b"]), ("b", ["B", "B", "B"])]
        paper = tight(grammar, PLAIN, ["A"])
        self.assertEqual(paper[1][(0, 1)][("name", "b")], 10)
        for value in range(11):
            for rest in range(11):
                changed = with_value(with_value(paper, (0, 1), ("name", "b"), value), (0, 1), ("rest", 1, 0), rest)
                self.check(rest <= value, changed, grammar, PLAIN, ["A"])

    def test_a_lesser_value_that_others_are_made_of(self):
        self.check(False, with_value(self.paper, (1, 1), ("name", "items"), 0)[:1] + (with_value(self.paper, (0, 0), ("name", "list"), 5)[1],))
        self.check(False, with_value(self.paper, (2, 3), ("rest", 0, 1), self.paper[1][(2, 3)][("rest", 0, 1)] - 1))

    def test_none_is_greater_than_every_integer(self):
        grammar = [("a", ["b"]), ("b", [])]
        paper = tight(grammar, PLAIN, ["A"])
        for key in [("name", "a"), ("name", "b"), ("rest", 0, 0), ("rest", 1, 0)]:
            self.assertIsNone(paper[1][(0, 1)][key])
        # Any value is at most None, on the right.
        self.check(True, with_value(paper, (0, 1), ("name", "a"), 2 ** 40), grammar, PLAIN, ["A"])
        self.check(True, with_value(paper, (0, 1), ("name", "a"), 2), grammar, PLAIN, ["A"])
        # None is at most None alone, on the left.
        for value in [2, 2 ** 40]:
            changed = with_value(paper, (0, 1), ("rest", 0, 0), value)
            self.check(False, changed, grammar, PLAIN, ["A"])
            self.check(True, with_value(changed, (0, 1), ("name", "a"), value), grammar, PLAIN, ["A"])
        self.check(False, with_value(paper, (0, 0), ("rest", 0, 0), None), grammar, PLAIN, ["A"])
        self.check(False, with_value(paper, (0, 0), ("name", "a"), None), grammar, PLAIN, ["A"])

    def test_sums_with_none(self):
        grammar = [("a", ["b", "c"]), ("a", ["A"]), ("b", []), ("c", [])]
        paper = tight(grammar, PLAIN, ["A"])
        self.assertIsNone(paper[1][(0, 1)][("rest", 0, 0)])
        # Both of the sums for this rest have one part that is None.
        self.check(True, with_value(paper, (0, 1), ("rest", 0, 0), 2 ** 32), grammar, PLAIN, ["A"])
        both = with_value(paper, (0, 1), ("name", "b"), 3)
        self.check(False, both, grammar, PLAIN, ["A"])
        self.check(True, with_value(both, (0, 1), ("rest", 0, 0), 3), grammar, PLAIN, ["A"])
        self.check(False, with_value(both, (0, 1), ("rest", 0, 0), 4), grammar, PLAIN, ["A"])

    def test_a_whole_where_the_start_is_none(self):
        grammar = [("a", ["b"]), ("b", [])]
        paper = tight(grammar, PLAIN, ["A"])
        self.assertIsNone(paper[1][(0, 1)][("name", "a")])
        self.assertEqual(paper[0], 2)
        self.check(True, paper, grammar, PLAIN, ["A"])
        self.check(False, (3, paper[1]), grammar, PLAIN, ["A"])

    def test_values_that_are_left_out(self):
        for (i, j), key in itertools.product(stretches_of(self.ROW), keys_of(LISTS)):
            self.check(False, without_value(self.paper, (i, j), key))

    def test_stretches_that_are_left_out(self):
        whole, bounds = self.paper
        for stretch in stretches_of(self.ROW):
            self.check(False, (whole, {other: bounds[other] for other in bounds if other != stretch}))
            self.check(False, (whole, {**bounds, stretch: {}}))
        self.check(False, (whole, {}))
        self.check(False, (-9, {}), LISTS, PLAIN, [])

    def test_negative_values(self):
        for (i, j), key in itertools.product(stretches_of(self.ROW), keys_of(LISTS)):
            self.check(False, with_value(self.paper, (i, j), key, -1))
            self.check(False, with_value(self.paper, (i, j), key, -2 ** 40))
        nothing = {stretch: {key: 0 for key in keys_of(LISTS)} for stretch in stretches_of(self.ROW)}
        self.check(True, (-5, nothing))
        self.check(False, with_value((-5, nothing), (0, 3), ("name", "list"), -1))

    def test_keys_and_stretches_of_more(self):
        whole, bounds = self.paper
        more = {("name", "other"): -1, ("rest", 9, 0): -2, ("rest", 0, 4): -3, ("rest", -1, 0): 0, ("name", "OPEN"): 0, ("OPEN",): 1}
        self.check(True, (whole, {stretch: {**found, **more} for stretch, found in bounds.items()}))
        self.check(True, (whole, {**bounds, (0, 4): {}, (4, 4): {("name", "list"): -1}, (1, 0): {("rest", 0, 0): -1}, (-1, 0): {}}))

    def test_the_value_of_a_last_rest_over_signs(self):
        # It may be any one, as far as the rest before it is not greater than what it is made of.
        grammar = [("a", ["A"]), ("a", [])]
        row = ["A", "X"]
        paper = tight(grammar, (3, 2, 2, {}), row)
        self.assertEqual([paper[1][stretch][("rest", 0, 0)] for stretch in [(0, 1), (1, 2), (0, 2), (1, 1)]], [0, 2, 4, 3])
        for value in range(7):
            # The rest before is over (0, 2), with the sign over (0, 1), or over (0, 0) before the rest over (0, 2).
            self.check(value >= 4, with_value(paper, (1, 2), ("rest", 0, 1), value), grammar, (3, 2, 2, {}), row)
            self.check(value >= 1, with_value(paper, (0, 2), ("rest", 0, 1), value), grammar, (3, 2, 2, {}), row)
        # Of a rule without symbols it is the rest itself: the name is at most it.
        for value in range(7):
            self.check(value >= 4, with_value(paper, (0, 2), ("rest", 1, 0), value), grammar, (3, 2, 2, {}), row)

    def test_many_papers(self):
        """Tight papers of many rows with some values changed, compared with each inequality."""
        chosen = random.Random(503)
        counts = {True: 0, False: 0}
        while min(counts.values()) < 150:
            grammar, prices, row = sound_grammar(chosen, 4, 3), some_prices(chosen), some_row(chosen, 3)
            whole, bounds = tight(grammar, prices, row)
            paper = (whole + chosen.choice([-2, -1, 0, 0, 0, 1]), bounds)
            for _ in range(chosen.randrange(0, 4)):
                stretch, key = chosen.choice(stretches_of(row)), chosen.choice(keys_of(grammar))
                value = bounds[stretch][key]
                others = [] if value is None else [value + 1, value - 1]
                paper = with_value(paper, stretch, key, chosen.choice([value, None, 0, 1] + others))
            wanted = told_is_bound(grammar, prices, row, paper)
            self.assertIs(is_bound(grammar, prices, row, paper), wanted, (grammar, prices, row, paper))
            counts[wanted] += 1

    def test_what_passes_is_a_bound(self):
        """Papers with few great values that pass: no tree and no mending costs less than they say (point 504)."""
        chosen = random.Random(504)
        passed = 0
        while passed < 60:
            grammar, prices, row = sound_grammar(chosen, 3, 2), some_prices(chosen), some_row(chosen, 2)
            entries = least_of_all_trees(grammar, prices, row)
            bounds = {stretch: {key: chosen.choice([0, 0, 1, value, value]) for key, value in found.items()}
                      for stretch, found in tight_paper(grammar, prices, row, entries)[1].items()}
            whole = chosen.randrange(-1, 6)
            if is_bound(grammar, prices, row, (whole, bounds)):
                passed += 1
                for i, j in stretches_of(row):
                    for name, _ in grammar:
                        cost = entries[(i, j)][("name", name)]
                        if cost is not None:
                            self.assertLessEqual(bounds[(i, j)][("name", name)], cost[0])
                self.assertLessEqual(whole, told_mending(grammar, prices, row, entries)[0])


def leaf(kind, i, j):
    """Return a leaf."""
    return ("leaf", kind, i, j)


def tree(name, rule, i, j, *parts):
    """Return a tree."""
    return ("tree", name, rule, i, j, list(parts))


class CheckMending(unittest.TestCase):
    ROW = ["OPEN", "X", "CLOSE", "CLOSE"]

    def setUp(self):
        entries = table(LISTS, PLAIN, self.ROW)
        self.paper = tight_paper(LISTS, PLAIN, self.ROW, entries)
        self.price, _, self.m, self.tree = told_mending(LISTS, PLAIN, self.ROW, entries)

    def check(self, wanted, m, one, paper=None, grammar=LISTS, row=None):
        """The check takes the mending, or it does not."""
        found = check_mending(grammar, PLAIN, self.ROW if row is None else row, m, one, self.paper if paper is None else paper)
        self.assertIs(found, wanted)

    def test_the_told_mending(self):
        self.assertEqual((self.price, self.m), (4, 3))
        self.check(True, self.m, self.tree)

    def test_another_m(self):
        for m in [0, 1, 2, 4]:
            self.check(False, m, self.tree)

    def test_another_tree_of_the_same_price(self):
        # Its m is another one, and so is the sign that is kept.
        one = tree("list", 0, 0, 4, leaf("OPEN", 0, 1), tree("items", 1, 1, 1), leaf("CLOSE", 1, 4))
        self.check(True, 4, one)
        self.check(False, 3, one)

    def test_a_tree_of_a_higher_price(self):
        one = tree("list", 0, 0, 3, leaf("OPEN", 0, 2), tree("items", 1, 2, 2), leaf("CLOSE", 2, 3))
        self.check(False, 3, one)
        # The check takes it neither if the whole of the paper is its price, nor if it is less.
        for whole in range(12):
            self.check(False, 3, one, (whole, self.paper[1]))

    def test_a_tree_that_is_none(self):
        parts = self.tree[5]
        for one in [leaf("OPEN", 0, 3), leaf("list", 0, 3), tree("list", 0, 0, 3), tree("list", 0, 0, 3, *parts[:2]), tree("list", -3, 0, 3, *parts),
                    tree("list", 1, 0, 3, *parts), tree("list", 3, 0, 3, *parts), tree("list", 0, 0, 3, *parts[::-1]),
                    tree("list", 0, 0, 3, leaf("OPEN", 0, 1), tree("items", 1, 1, 1), leaf("CLOSE", 2, 3)),
                    tree("list", 0, 0, 3, leaf("OPEN", 0, 1), tree("items", 1, 1, 2), leaf("CLOSE", 2, 3)),
                    tree("", 0, 0, 0), leaf("", -1, 9), tree("tree", -1, -1, -1, leaf("leaf", 5, 2))]:
            self.check(False, 3, one)

    def test_a_tree_of_another_name(self):
        grammar = [("a", ["b"]), ("b", ["A"])]
        paper = tight(grammar, PLAIN, ["A"])
        inner = tree("b", 1, 0, 1, leaf("A", 0, 1))
        self.check(True, 1, tree("a", 0, 0, 1, inner), paper, grammar, ["A"])
        self.check(False, 1, inner, paper, grammar, ["A"])
        self.check(False, 1, leaf("A", 0, 1), paper, grammar, ["A"])

    def test_a_tree_over_another_stretch(self):
        grammar = [("a", ["A"])]
        row = ["A", "A"]
        paper = tight(grammar, PLAIN, row)
        self.assertEqual(paper[0], 2)
        self.check(True, 1, tree("a", 0, 0, 1, leaf("A", 0, 1)), paper, grammar, row)
        self.check(True, 2, tree("a", 0, 0, 2, leaf("A", 0, 2)), paper, grammar, row)
        self.check(False, 2, tree("a", 0, 1, 2, leaf("A", 1, 2)), paper, grammar, row)
        self.check(False, 1, tree("a", 0, 1, 2, leaf("A", 1, 2)), paper, grammar, row)
        self.check(False, 0, tree("a", 0, 0, 0, leaf("A", 0, 0)), paper, grammar, row)
        self.check(False, 2, tree("a", 0, 0, 1, leaf("A", 0, 1)), (0, paper[1]), grammar, row)

    def test_a_paper_that_is_no_bound(self):
        value = self.paper[1][(1, 2)][("name", "items")]
        self.check(False, self.m, self.tree, with_value(self.paper, (1, 2), ("name", "items"), value + 1))
        self.check(False, self.m, self.tree, without_value(self.paper, (1, 2), ("rest", 2, 1)))
        self.check(False, self.m, self.tree, (4, {}))

    def test_a_whole_that_is_another_number(self):
        for whole in [-4, 0, 3, 5, 100]:
            self.check(False, self.m, self.tree, (whole, self.paper[1]))

    def test_other_papers(self):
        # Any bound from below will do, if its whole is the price.
        for most in [4, 5, 6]:
            less = {stretch: {key: most if value is None else min(value, most) for key, value in found.items()}
                    for stretch, found in self.paper[1].items()}
            self.assertNotEqual(less, self.paper[1])
            self.check(True, self.m, self.tree, (4, less))
            self.check(False, self.m, self.tree, (3, less))
        self.check(True, self.m, self.tree, with_value(self.paper, (3, 3), ("name", "other"), -1))

    def test_the_empty_row(self):
        paper = tight(LISTS, PLAIN, [])
        one = tree("list", 0, 0, 0, leaf("OPEN", 0, 0), tree("items", 1, 0, 0), leaf("CLOSE", 0, 0))
        self.check(True, 0, one, paper, LISTS, [])
        self.check(False, 0, tree("items", 1, 0, 0), (0, paper[1]), LISTS, [])

    def test_true_only_for_the_least_price(self):
        """All whole mendings of small rows, some with other papers."""
        chosen = random.Random(506)
        counts = {True: 0, False: 0}
        for _ in range(120):
            grammar, prices, row = sound_grammar(chosen, 5, 3), some_prices(chosen), some_row(chosen, 3)
            paper = tight(grammar, prices, row)
            price, _, m, one = told_mending(grammar, prices, row, table(grammar, prices, row))
            self.assertIs(check_mending(grammar, prices, row, m, one, paper), True)
            for m in range(len(row) + 1):
                for one in itertools.islice(all_trees(grammar, row, grammar[0][0], 0, m), 10):
                    wanted = told_cost(prices, row, one)[0] + left_out(prices, row[m:]) == price
                    self.assertIs(check_mending(grammar, prices, row, m, one, paper), wanted)
                    counts[wanted] += 1
                    for whole in [paper[0] - 1, paper[0] + 1]:
                        self.assertIs(check_mending(grammar, prices, row, m, one, (whole, paper[1])), False)
        self.assertGreater(min(counts.values()), 50)


class NothingIsModified(unittest.TestCase):
    def setUp(self):
        self.grammar = copy.deepcopy(LISTS)
        self.prices = (3, 2, 4, {("out", "OTHER"): 1})
        self.row = ["OPEN", "OTHER", "OPEN"]
        self.entries = table(self.grammar, self.prices, self.row)

    def test_arguments(self):
        arguments = (self.grammar, self.prices, self.row)
        kept = copy.deepcopy((arguments, self.entries))
        paper = tight_paper(*arguments, self.entries)
        kept_paper = copy.deepcopy(paper)
        _, _, m, one = told_mending(*arguments, self.entries)
        kept_tree = copy.deepcopy(one)
        self.assertIs(is_bound(*arguments, paper), True)
        self.assertIs(check_mending(*arguments, m, one, paper), True)
        self.assertIs(is_bound(*arguments, with_value(paper, (0, 0), ("rest", 0, 3), 1)), False)
        self.assertEqual(((arguments, self.entries), paper, one), (kept, kept_paper, kept_tree))

    def test_what_is_returned_is_new(self):
        paper = tight_paper(self.grammar, self.prices, self.row, self.entries)
        kept = copy.deepcopy(paper)
        for found in paper[1].values():
            found.clear()
        paper[1].clear()
        self.assertEqual(tight_paper(self.grammar, self.prices, self.row, self.entries), kept)
        found = tight_paper(self.grammar, self.prices, self.row, self.entries)[1]
        self.assertEqual(len({id(one) for one in found.values()}), len(found))


if __name__ == "__main__":
    unittest.main()
