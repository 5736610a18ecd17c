"""Points 2, 309, 402 and 403, and leastmend/trees/best.py."""

import copy
import inspect
import itertools
import random
import unittest

from leastmend.tables.table import table
from leastmend.trees import best as module
from leastmend.trees.best import best_tree, told_mending
from leastmend.trees.trees import is_tree, tree_cost
from test_table import LISTS, PLAIN, SUMS, some_prices, some_row, sound_grammar, stretches_of
from told import all_trees, at_most, first_of, lists_in, told_before, told_cost


class TheInterface(unittest.TestCase):
    def test_the_functions_and_their_arguments(self):
        wanted = [("best_tree", ["grammar", "prices", "row", "name", "i", "j", "entries"]),
                  ("told_mending", ["grammar", "prices", "row", "entries"])]
        for name, arguments in wanted:
            function = getattr(module, name)
            self.assertEqual(function.__module__, "leastmend.trees.best")
            self.assertEqual(list(inspect.signature(function).parameters), arguments)


def leaf(kind, i, j):
    """Return a leaf."""
    return ("leaf", kind, i, j)


def tree(name, rule, i, j, *parts):
    """Return a tree."""
    return ("tree", name, rule, i, j, list(parts))


class BestTree(unittest.TestCase):
    def check(self, grammar, prices, row, stretch, wanted):
        """This is the first tree of its name over the stretch."""
        name = wanted[1]
        entries = table(grammar, prices, row)
        found = best_tree(grammar, prices, row, name, *stretch, entries)
        self.assertEqual(found, wanted)
        self.assertEqual(found, first_of(prices, row, all_trees(grammar, row, name, *stretch)))
        self.assertEqual(told_cost(prices, row, found), entries[stretch][("name", name)])

    def test_ordinary(self):
        row = ["OPEN", "OPEN", "CLOSE", "CLOSE"]
        inner = tree("list", 0, 1, 3, leaf("OPEN", 1, 2), tree("items", 1, 2, 2), leaf("CLOSE", 2, 3))
        items = tree("items", 2, 1, 3, inner, tree("items", 1, 3, 3))
        self.check(LISTS, PLAIN, row, (0, 4), tree("list", 0, 0, 4, leaf("OPEN", 0, 1), items, leaf("CLOSE", 3, 4)))
        self.check(LISTS, PLAIN, row, (1, 3), inner)
        self.check(LISTS, PLAIN, row, (1, 3), items)
        self.check(LISTS, PLAIN, row, (2, 2), tree("items", 1, 2, 2))
        self.check(LISTS, PLAIN, row, (0, 0), tree("list", 0, 0, 0, leaf("OPEN", 0, 0), tree("items", 1, 0, 0), leaf("CLOSE", 0, 0)))

    def test_names_of_the_same_letters_first(self):
        row = "NUMBER PLUS NUMBER".split()
        first = tree("sum", 0, 0, 1, tree("part", 2, 0, 1, leaf("NUMBER", 0, 1)))
        self.check(SUMS, PLAIN, row, (0, 3), tree("sum", 1, 0, 3, first, leaf("PLUS", 1, 2), tree("part", 2, 2, 3, leaf("NUMBER", 2, 3))))

    def test_the_least_price(self):
        # Between leaving out and putting in, and exchanging, the prices decide.
        grammar = [("a", ["A", "B", "A"])]
        row = ["A", "X", "A"]
        self.check(grammar, (3, 2, 4, {}), row, (0, 3), tree("a", 0, 0, 3, leaf("A", 0, 1), leaf("B", 1, 2), leaf("A", 2, 3)))
        self.check(grammar, (1, 2, 4, {}), row, (0, 3), tree("a", 0, 0, 3, leaf("A", 0, 1), leaf("B", 1, 1), leaf("A", 1, 3)))

    def test_the_price_before_the_size(self):
        grammar = [("a", ["A"]), ("a", ["b", "b"]), ("b", ["c"]), ("c", ["B"])]
        parts = [tree("b", 2, k, k + 1, tree("c", 3, k, k + 1, leaf("B", k, k + 1))) for k in range(2)]
        self.check(grammar, PLAIN, ["B", "B"], (0, 2), tree("a", 1, 0, 2, *parts))

    def test_the_size_before_the_rule(self):
        grammar = [("a", ["b"]), ("a", ["A"]), ("b", ["A"])]
        self.check(grammar, PLAIN, ["A"], (0, 1), tree("a", 1, 0, 1, leaf("A", 0, 1)))

    def test_the_rule_decides(self):
        # The ends of the second rule's parts would be less.
        grammar = [("a", ["A", "b"]), ("a", ["b", "A"]), ("b", [])]
        self.check(grammar, PLAIN, ["A"], (0, 1), tree("a", 0, 0, 1, leaf("A", 0, 1), tree("b", 2, 1, 1)))
        other = [grammar[1], grammar[0], grammar[2]]
        self.check(other, PLAIN, ["A"], (0, 1), tree("a", 0, 0, 1, tree("b", 2, 0, 0), leaf("A", 0, 1)))

    def test_the_rule_decides_among_equal_rules_of_several_names(self):
        grammar = [("a", ["c"]), ("a", ["b"]), ("b", ["A"]), ("b", ["B"]), ("c", ["B"]), ("c", ["A"])]
        self.check(grammar, PLAIN, ["X"], (0, 1), tree("a", 0, 0, 1, tree("c", 4, 0, 1, leaf("B", 0, 1))))

    def test_the_ends_decide(self):
        self.check([("a", ["A", "A"])], PLAIN, ["A"], (0, 1), tree("a", 0, 0, 1, leaf("A", 0, 0), leaf("A", 0, 1)))
        self.check([("a", ["A", "A"])], PLAIN, ["A", "A", "A"], (0, 3), tree("a", 0, 0, 3, leaf("A", 0, 1), leaf("A", 1, 3)))
        parts = [leaf("A", 0, 0), leaf("A", 0, 0), leaf("A", 0, 1), leaf("A", 1, 2)]
        self.check([("a", ["A"] * 4)], PLAIN, ["A", "A"], (0, 2), tree("a", 0, 0, 2, *parts))
        parts = [leaf("A", 0, 0), leaf("B", 0, 1), leaf("A", 1, 1), leaf("B", 1, 2)]
        self.check([("a", ["A", "B"] * 2)], PLAIN, ["X", "X"], (0, 2),
                   tree("a", 0, 0, 2, leaf("A", 0, 0), leaf("B", 0, 0), leaf("A", 0, 1), leaf("B", 1, 2)))
        self.check([("a", ["A", "B"] * 2)], PLAIN, ["B", "B"], (0, 2), tree("a", 0, 0, 2, *parts))

    def test_the_ends_decide_before_the_parts(self):
        # With later ends, the first part would be of a lower rule.
        grammar = [("a", ["b", "c"]), ("b", ["B"]), ("b", []), ("c", []), ("c", ["B"]), ("b", ["d"]), ("d", [])]
        self.check(grammar, (3, 2, 4, {}), ["B"], (0, 1), tree("a", 0, 0, 1, tree("b", 2, 0, 0), tree("c", 4, 0, 1, leaf("B", 0, 1))))

    def test_a_part_decides(self):
        grammar = [("a", ["b", "b"]), ("b", ["B"]), ("b", ["A"])]
        first = [tree("b", 1, 0, 0, leaf("B", 0, 0)), tree("b", 1, 0, 1, leaf("B", 0, 1))]
        self.check(grammar, PLAIN, ["X"], (0, 1), tree("a", 0, 0, 1, *first))
        first = [tree("b", 1, 0, 0, leaf("B", 0, 0)), tree("b", 2, 0, 1, leaf("A", 0, 1))]
        self.check(grammar, PLAIN, ["A"], (0, 1), tree("a", 0, 0, 1, *first))

    def test_a_part_deep_within_decides(self):
        grammar = [("a", ["b"]), ("b", ["c", "c"]), ("c", ["d", "e"]), ("d", ["A"]), ("d", []), ("e", []), ("e", ["A"])]
        part = tree("c", 2, 0, 0, tree("d", 4, 0, 0), tree("e", 5, 0, 0))
        last = tree("c", 2, 0, 1, tree("d", 4, 0, 0), tree("e", 6, 0, 1, leaf("A", 0, 1)))
        self.check(grammar, PLAIN, ["A"], (0, 1), tree("a", 0, 0, 1, tree("b", 1, 0, 1, part, last)))

    def test_names_within_themselves(self):
        self.check([("a", ["a"]), ("a", ["A"])], PLAIN, ["A"], (0, 1), tree("a", 1, 0, 1, leaf("A", 0, 1)))
        self.check([("a", ["b"]), ("a", ["A"]), ("b", ["a"])], PLAIN, ["A"], (0, 1),
                   tree("b", 2, 0, 1, tree("a", 1, 0, 1, leaf("A", 0, 1))))
        grammar = [("a", ["a", "a"]), ("a", []), ("a", ["A"])]
        one, two, three = [tree("a", 2, k, k + 1, leaf("A", k, k + 1)) for k in range(3)]
        self.check(grammar, PLAIN, ["A"] * 3, (0, 3), tree("a", 0, 0, 3, one, tree("a", 0, 1, 3, two, three)))

    def test_rules_of_one_name(self):
        grammar = [("a", ["b"]), ("b", ["c"]), ("c", ["A"]), ("c", [])]
        inner = tree("b", 1, 0, 1, tree("c", 2, 0, 1, leaf("A", 0, 1)))
        self.check(grammar, PLAIN, ["A"], (0, 1), tree("a", 0, 0, 1, inner))
        self.check(grammar, PLAIN, ["A"], (1, 1), tree("a", 0, 1, 1, tree("b", 1, 1, 1, tree("c", 3, 1, 1))))

    def test_none_where_there_is_no_tree(self):
        grammar = [("a", ["A", "b"]), ("b", ["c", "c"]), ("c", [])]
        row = ["A", "A"]
        entries = table(grammar, PLAIN, row)
        for name, (i, j) in itertools.product("abc", stretches_of(row)):
            found = best_tree(grammar, PLAIN, row, name, i, j, entries)
            if name == "a" or i == j:
                self.assertEqual(found[:2] + found[3:5], ("tree", name, i, j))
            else:
                self.assertIsNone(found)

    def test_a_name_without_a_rule(self):
        self.assertIsNone(best_tree([("a", [])], PLAIN, [], "b", 0, 0, table([("a", [])], PLAIN, [])))

    def test_equal_parts_are_lists_of_their_own(self):
        grammar = [("a", ["b", "b"]), ("b", ["c"]), ("c", [])]
        found = best_tree(grammar, PLAIN, [], "a", 0, 0, table(grammar, PLAIN, []))
        self.assertEqual(found, tree("a", 0, 0, 0, *[tree("b", 1, 0, 0, tree("c", 2, 0, 0)) for _ in range(2)]))
        self.assertEqual(len({id(one) for one in lists_in(found)}), 5)

    def test_all_names_and_stretches(self):
        """Many small grammars and rows, compared with all their trees."""
        chosen = random.Random(404)
        compared = 0
        while compared < 1500:
            grammar, prices, row = sound_grammar(chosen, 6, 3), some_prices(chosen), some_row(chosen, 3)
            entries = table(grammar, prices, row)
            for name, (i, j) in itertools.product(sorted({name for name, _ in grammar}), stretches_of(row)):
                trees = at_most(200, all_trees(grammar, row, name, i, j))
                if trees is not None:
                    found = best_tree(grammar, prices, row, name, i, j, entries)
                    self.assertEqual(found, first_of(prices, row, trees), (grammar, prices, row, name, i, j))
                    compared += 1

    def test_no_tree_of_longer_rows_is_before(self):
        """Longer rows, where only some trees are tried."""
        chosen = random.Random(405)
        for _ in range(40):
            grammar, prices, row = sound_grammar(chosen, 8, 5), some_prices(chosen), some_row(chosen, 6)
            entries = table(grammar, prices, row)
            for name, (i, j) in itertools.product(sorted({name for name, _ in grammar}), stretches_of(row)):
                found = best_tree(grammar, prices, row, name, i, j, entries)
                if found is None:
                    self.assertIsNone(entries[(i, j)][("name", name)])
                    continue
                self.assertTrue(is_tree(grammar, row, found))
                self.assertEqual(found[:2] + found[3:5], ("tree", name, i, j))
                self.assertEqual(told_cost(prices, row, found), entries[(i, j)][("name", name)])
                for other in itertools.islice(all_trees(grammar, row, name, i, j), 5):
                    self.assertFalse(told_before(prices, row, other, found), (grammar, prices, row, other, found))


class ToldMending(unittest.TestCase):
    def check(self, grammar, prices, row, wanted):
        found = told_mending(grammar, prices, row, table(grammar, prices, row))
        self.assertEqual(found, wanted)
        self.assertIs(found.__class__, tuple)

    def test_ordinary(self):
        self.check(SUMS, PLAIN, ["NUMBER"], (0, 3, 1, tree("sum", 0, 0, 1, tree("part", 2, 0, 1, leaf("NUMBER", 0, 1)))))
        wanted = tree("list", 0, 0, 2, leaf("OPEN", 0, 1), tree("items", 1, 1, 1), leaf("CLOSE", 1, 2))
        self.check(LISTS, PLAIN, ["OPEN", "CLOSE"], (0, 4, 2, wanted))
        wanted = tree("list", 0, 0, 1, leaf("OPEN", 0, 1), tree("items", 1, 1, 1), leaf("CLOSE", 1, 1))
        self.check(LISTS, PLAIN, ["OPEN"], (3, 4, 1, wanted))

    def test_the_empty_row(self):
        wanted = tree("list", 0, 0, 0, leaf("OPEN", 0, 0), tree("items", 1, 0, 0), leaf("CLOSE", 0, 0))
        self.check(LISTS, PLAIN, [], (6, 4, 0, wanted))
        self.check([("a", [])], PLAIN, [], (0, 1, 0, tree("a", 0, 0, 0)))

    def test_signs_behind_the_tree(self):
        self.check([("a", [])], PLAIN, ["A", "OTHER"], (4, 1, 0, tree("a", 0, 0, 0)))
        self.check([("a", ["A"])], PLAIN, ["A", "X"], (2, 2, 1, tree("a", 0, 0, 1, leaf("A", 0, 1))))
        self.check([("a", ["A"])], PLAIN, ["X", "A", "X"], (4, 2, 2, tree("a", 0, 0, 2, leaf("A", 0, 2))))

    def test_the_least_price(self):
        # What is left out behind the tree counts as well.
        prices = (3, 2, 40, {("out", "B"): 7, ("out", "C"): 1})
        self.check([("a", ["A"])], prices, ["A", "B", "A", "C"], (10, 2, 1, tree("a", 0, 0, 1, leaf("A", 0, 1))))
        self.check([("a", ["A"]), ("a", ["A", "B"])], prices, ["A", "B", "A", "C"], (3, 3, 2, tree("a", 1, 0, 2, leaf("A", 0, 1), leaf("B", 1, 2))))

    def test_then_the_least_size(self):
        grammar = [("a", ["b"]), ("a", ["A"]), ("b", [])]
        self.check(grammar, (3, 2, 2, {}), ["X"], (2, 2, 0, tree("a", 0, 0, 0, tree("b", 2, 0, 0))))
        grammar = [("a", ["b"]), ("a", ["A"]), ("b", ["c"]), ("c", [])]
        self.check(grammar, (3, 2, 2, {}), ["X"], (2, 2, 1, tree("a", 1, 0, 1, leaf("A", 0, 1))))

    def test_then_the_least_m(self):
        self.check([("a", ["A"])], PLAIN, ["A"] * 3, (4, 2, 1, tree("a", 0, 0, 1, leaf("A", 0, 1))))
        # With the same m, the ends are the least ones.
        self.check([("a", ["A", "A"])], PLAIN, ["A"] * 3, (2, 3, 2, tree("a", 0, 0, 2, leaf("A", 0, 1), leaf("A", 1, 2))))

    def test_then_the_first_tree(self):
        grammar = [("a", ["A", "b"]), ("a", ["b", "A"]), ("b", [])]
        self.check(grammar, PLAIN, ["A"], (0, 3, 1, tree("a", 0, 0, 1, leaf("A", 0, 1), tree("b", 2, 1, 1))))
        grammar = [("a", ["b", "b"]), ("b", ["B"]), ("b", ["A"])]
        parts = [tree("b", 1, 0, 0, leaf("B", 0, 0)), tree("b", 1, 0, 1, leaf("B", 0, 1))]
        self.check(grammar, PLAIN, ["X"], (7, 5, 1, tree("a", 0, 0, 1, *parts)))

    def test_60_signs(self):
        row = ["OPEN", "CLOSE"] * 30
        price, size, m, found = told_mending([("a", ["OPEN", "CLOSE", "a"]), ("a", [])], PLAIN, row,
                                             table([("a", ["OPEN", "CLOSE", "a"]), ("a", [])], PLAIN, row))
        self.assertEqual((price, size, m), (0, 91, 60))
        for k in range(0, 60, 2):
            self.assertEqual(found[:5], ("tree", "a", 0, k, 60))
            self.assertEqual(found[5][:2], [leaf("OPEN", k, k + 1), leaf("CLOSE", k + 1, k + 2)])
            found = found[5][2]
        self.assertEqual(found, tree("a", 1, 60, 60))

    def test_60_signs_with_errors(self):
        row = ["OPEN", "X", "OPEN", "CLOSE", "OTHER", "CLOSE"] * 10
        entries = table(LISTS, PLAIN, row)
        price, size, m, found = told_mending(LISTS, PLAIN, row, entries)
        self.assertTrue(is_tree(LISTS, row, found))
        self.assertEqual(found[3:5], (0, m))
        self.assertEqual(tree_cost(PLAIN, row, found), (price - 2 * (60 - m), size))

    def test_a_tree_that_is_nested_deep(self):
        # Each sign lies 23 trees below the sign before it.
        names = "abcdefghijklmnopqrstuvw"
        grammar = [(name, [below]) for name, below in zip(names, names[1:])] + [("w", ["K", "a"]), ("w", ["K"])]
        row = ["K"] * 60
        price, size, m, found = told_mending(grammar, PLAIN, row, table(grammar, PLAIN, row))
        self.assertEqual((price, size, m), (0, 60 * 24, 60))
        depth = 0
        while found[5][-1][0] == "tree":
            found = found[5][-1]
            depth += 1
        self.assertEqual(depth, 60 * 23 - 1)

    def test_against_all_trees(self):
        chosen = random.Random(406)
        compared = 0
        while compared < 150:
            grammar, prices, row = sound_grammar(chosen, 5, 3), some_prices(chosen), some_row(chosen, 3)
            found = []
            for m in range(len(row) + 1):
                trees = at_most(200, all_trees(grammar, row, grammar[0][0], 0, m))
                if trees is None:
                    break
                left_out = sum(prices[3].get(("out", kind), prices[1]) for kind in row[m:])
                costs = [told_cost(prices, row, one) for one in trees]
                found.extend((price + left_out, size, m, one) for (price, size), one in zip(costs, trees))
            else:
                least = min(one[:3] for one in found)
                first = first_of(prices, row, [one[3] for one in found if one[:3] == least])
                self.check(grammar, prices, row, least + (first,))
                compared += 1


class NothingIsModified(unittest.TestCase):
    def setUp(self):
        self.grammar = copy.deepcopy(SUMS)
        self.prices = (3, 2, 4, {("out", "OTHER"): 1})
        self.row = ["NUMBER", "OTHER", "PLUS", "NUMBER"]
        self.entries = table(self.grammar, self.prices, self.row)

    def both(self):
        """Return the tree and the mending that the functions return."""
        arguments = (self.grammar, self.prices, self.row)
        return [best_tree(*arguments, "sum", 0, 4, self.entries), told_mending(*arguments, self.entries)]

    def test_arguments(self):
        kept = copy.deepcopy((self.grammar, self.prices, self.row, self.entries))
        self.both()
        self.assertEqual((self.grammar, self.prices, self.row, self.entries), kept)

    def test_what_is_returned_is_new(self):
        first = self.both()
        kept = copy.deepcopy(first)
        self.assertGreater(len(lists_in(first)), 4)
        for one in lists_in(first):
            one.clear()
        self.assertEqual(self.both(), kept)

    def test_the_lists_within_a_tree_are_its_own(self):
        found = lists_in(self.both()[1]) + lists_in(self.both()[1])
        self.assertEqual(len({id(one) for one in found}), len(found))


if __name__ == "__main__":
    unittest.main()
