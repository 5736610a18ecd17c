"""Points 2, 507 and 508, and leastmend/checks/slacks.py."""

import copy
import inspect
import itertools
import random
import unittest

from leastmend.checks import slacks as module
from leastmend.checks.slacks import outer_prices, slacks
from leastmend.tables.table import table
from leastmend.trees.best import told_mending
from test_table import LISTS, PLAIN, SUMS, least_of_all_trees, some_prices, some_row, sound_grammar, stretches_of, told_leaf
from told import told_cost


class TheInterface(unittest.TestCase):
    def test_the_functions_and_their_arguments(self):
        for name in ["outer_prices", "slacks"]:
            function = getattr(module, name)
            self.assertEqual(function.__module__, "leastmend.checks.slacks")
            self.assertEqual(list(inspect.signature(function).parameters), ["grammar", "prices", "row", "entries"])


def left_out(prices, row):
    """Return the price for leaving out all signs of a row."""
    return sum(prices[3].get(("out", kind), prices[1]) for kind in row)


def trees_within(one):
    """Yield the tree itself and all trees in it."""
    if one[0] == "tree":
        yield one
        for part in one[5]:
            yield from trees_within(part)


def trees_twice(grammar, row, name, i, j, around=()):
    """Yield all trees of a name over a stretch in which a tree is at most once within one of its name and stretch."""
    if around.count((name, i, j)) > 1:
        return
    for rule, (owner, symbols) in enumerate(grammar):
        if owner == name:
            for parts in parts_twice(grammar, row, symbols, i, j, around + ((name, i, j),)):
                yield ("tree", name, rule, i, j, parts)


def parts_twice(grammar, row, symbols, i, j, around):
    """Yield all lists of leaves and such trees for the symbols over stretches that follow each other."""
    if not symbols:
        if i == j:
            yield []
        return
    names = [name for name, _ in grammar]
    for k in range(i, j + 1):
        for others in parts_twice(grammar, row, symbols[1:], k, j, around):
            if symbols[0] in names:
                heads = trees_twice(grammar, row, symbols[0], i, k, around)
            else:
                heads = [("leaf", symbols[0], i, k)]
            for head in heads:
                yield [head] + others


def outer_of_all_mendings(grammar, prices, row, most):
    """Return the outer prices, from all whole mendings of a row; None if there are more of them than so many."""
    found = {stretch: {name: None for name, _ in grammar} for stretch in stretches_of(row)}
    for m in range(len(row) + 1):
        for count, one in enumerate(trees_twice(grammar, row, grammar[0][0], 0, m)):
            if count > most:
                return None
            whole = told_cost(prices, row, one)[0] + left_out(prices, row[m:])
            for inner in trees_within(one):
                price = whole - told_cost(prices, row, inner)[0]
                before = found[inner[3:5]][inner[1]]
                found[inner[3:5]][inner[1]] = price if before is None else min(before, price)
    return found


def outer_in_rounds(grammar, prices, row, entries):
    """Return the outer prices, from those of the trees that a tree may be a part of, until none of them falls."""
    names = [name for name, _ in grammar]
    found = {stretch: {name: float("inf") for name in names} for stretch in stretches_of(row)}
    for m in range(len(row) + 1):
        found[(0, m)][names[0]] = left_out(prices, row[m:])

    def inner(symbol, i, j):
        if symbol not in names:
            return told_leaf(prices, row, symbol, i, j)[0]
        cost = entries[(i, j)][("name", symbol)]
        return float("inf") if cost is None else cost[0]

    falling = True
    while falling:
        falling = False
        for (i, j), (owner, symbols) in itertools.product(stretches_of(row), grammar):
            for ends in itertools.combinations_with_replacement(range(i, j + 1), max(len(symbols) - 1, 0)):
                cuts = (i,) + ends + (j,)
                for at, symbol in enumerate(symbols):
                    if symbol in names:
                        price = found[(i, j)][owner]
                        price += sum(inner(symbols[k], cuts[k], cuts[k + 1]) for k in range(len(symbols)) if k != at)
                        if price < found[cuts[at:at + 2]][symbol]:
                            found[cuts[at:at + 2]][symbol] = price
                            falling = True
    return {(i, j): {name: None if float("inf") in (price, inner(name, i, j)) else price for name, price in outer.items()}
            for (i, j), outer in found.items()}


class OuterPrices(unittest.TestCase):
    def check(self, grammar, prices, row, wanted):
        """These are outer prices; all of them are those of all whole mendings."""
        found = outer_prices(grammar, prices, row, table(grammar, prices, row))
        self.assertEqual(sorted(found), stretches_of(row))
        for stretch in found:
            self.assertEqual(sorted(found[stretch]), sorted({name for name, _ in grammar}))
        for stretch, name in wanted:
            self.assertEqual(found[stretch][name], wanted[(stretch, name)], (stretch, name))
        self.assertEqual(found, outer_of_all_mendings(grammar, prices, row, 20000))

    def test_a_name_alone(self):
        self.check([("a", ["A"])], PLAIN, [], {((0, 0), "a"): 0})
        self.check([("a", ["A"])], PLAIN, ["A", "X"], {((0, 0), "a"): 4, ((0, 1), "a"): 2, ((0, 2), "a"): 0,
                                                      ((1, 1), "a"): None, ((1, 2), "a"): None, ((2, 2), "a"): None})

    def test_signs_that_are_left_out_behind(self):
        prices = (3, 2, 4, {("out", "B"): 7, ("out", "OTHER"): 1})
        self.check([("a", ["A"])], prices, ["A", "B", "OTHER"], {((0, 0), "a"): 10, ((0, 1), "a"): 8, ((0, 2), "a"): 1, ((0, 3), "a"): 0})

    def test_parts_of_a_rule(self):
        # Beside the tree in the middle, the signs around it are kept or exchanged, and others are put in or left out.
        grammar = [("a", ["A", "b", "C"]), ("b", ["B"])]
        self.check(grammar, PLAIN, ["A", "B", "C"], {
            ((1, 2), "b"): 0, ((0, 3), "a"): 0, ((0, 3), "b"): 6, ((1, 1), "b"): 2, ((2, 2), "b"): 6, ((2, 3), "b"): 9,
            ((0, 1), "b"): 5, ((0, 2), "b"): 3, ((3, 3), "b"): 11})

    def test_none_where_there_is_no_such_tree(self):
        # There is a place for the name over the sign, but it has no tree over it.
        grammar = [("a", ["b", "A"]), ("b", [])]
        self.check(grammar, PLAIN, ["A"], {((0, 0), "b"): 0, ((0, 1), "b"): None, ((1, 1), "b"): None, ((0, 1), "a"): 0, ((1, 1), "a"): None})

    def test_none_where_there_is_no_place(self):
        # The name has trees over all stretches, but it stands at the beginning alone.
        grammar = [("a", ["b", "e"]), ("b", ["B"]), ("e", [])]
        self.check(grammar, PLAIN, ["B", "B"], {((0, 1), "b"): 2, ((0, 2), "b"): 0, ((1, 1), "b"): None, ((1, 2), "b"): None, ((2, 2), "b"): None})

    def test_none_where_what_is_beside_has_no_tree(self):
        grammar = [("a", ["e", "b"]), ("e", []), ("b", ["B"])]
        self.check(grammar, PLAIN, ["B"], {((0, 1), "b"): 0, ((0, 0), "b"): 2, ((1, 1), "b"): None, ((0, 0), "e"): 0, ((1, 1), "e"): None})

    def test_a_name_twice_in_a_rule(self):
        grammar = [("a", ["b", "b"]), ("b", ["A"])]
        self.check(grammar, PLAIN, ["A", "A"], {((0, 1), "b"): 0, ((1, 2), "b"): 0, ((0, 0), "b"): 2, ((0, 2), "b"): 3, ((1, 1), "b"): 2, ((2, 2), "b"): 2})
        grammar = [("a", ["b", "A", "b"]), ("b", ["A"]), ("b", [])]
        self.check(grammar, PLAIN, ["A"], {((0, 0), "b"): 0, ((1, 1), "b"): 0, ((0, 1), "b"): 3})

    def test_a_name_within_itself(self):
        self.check([("a", ["a"]), ("a", ["A"])], PLAIN, ["A"], {((0, 1), "a"): 0, ((0, 0), "a"): 2, ((1, 1), "a"): None})
        self.check([("a", ["A", "a"]), ("a", [])], PLAIN, ["A", "X"],
                   {((0, 2), "a"): 0, ((1, 2), "a"): 0, ((2, 2), "a"): 4, ((1, 1), "a"): 2, ((0, 0), "a"): 4})
        self.check([("a", ["a", "A"]), ("a", [])], PLAIN, ["A", "X"], {((0, 0), "a"): 2, ((0, 1), "a"): 2, ((0, 2), "a"): 0, ((1, 2), "a"): None})

    def test_names_that_depend_on_each_other(self):
        # A tree of the second name contains one of the first name over the same stretch, which lies in another one.
        grammar = [("a", ["b"]), ("a", ["A"]), ("b", ["c"]), ("c", ["a"])]
        self.check(grammar, PLAIN, ["A"], {((0, 1), name): 0 for name in "abc"})
        grammar = [("a", ["e", "b"]), ("a", ["A"]), ("b", ["c", "e"]), ("c", ["e", "a"]), ("e", []), ("e", ["B"])]
        self.check(grammar, PLAIN, ["A"], {**{((0, 1), name): 0 for name in "abc"}, ((0, 0), "e"): 0, ((0, 1), "e"): 3})

    def test_signs_that_are_left_out_before_the_tree(self):
        grammar = [("a", ["A", "b"]), ("b", ["B"]), ("b", [])]
        self.check(grammar, PLAIN, ["X", "A", "B"], {((2, 3), "b"): 2, ((2, 2), "b"): 4, ((1, 3), "b"): 4, ((0, 3), "b"): 3, ((3, 3), "b"): 8})

    def test_the_order_of_the_rules_plays_no_part(self):
        grammar = [("a", ["b", "B"]), ("b", ["c"]), ("c", ["d", "A"]), ("d", ["e", "e"]), ("e", []), ("e", ["A"])]
        row = ["A", "B"]
        first = outer_prices(grammar, PLAIN, row, table(grammar, PLAIN, row))
        for order in itertools.permutations(range(1, 6)):
            shuffled = grammar[:1] + [grammar[k] for k in order]
            self.assertEqual(outer_prices(shuffled, PLAIN, row, table(shuffled, PLAIN, row)), first)
        self.check(grammar, PLAIN, row, {})

    def test_all_whole_mendings(self):
        """Small grammars and rows, compared with all of their whole mendings."""
        chosen = random.Random(507)
        compared = 0
        while compared < 120:
            grammar, prices, row = sound_grammar(chosen, 4, 2), some_prices(chosen), some_row(chosen, 2)
            wanted = outer_of_all_mendings(grammar, prices, row, 300)
            if wanted is not None:
                self.assertEqual(outer_prices(grammar, prices, row, table(grammar, prices, row)), wanted, (grammar, prices, row))
                compared += 1

    def test_rounds(self):
        """Larger grammars and longer rows, compared with outer prices that are made in rounds."""
        chosen = random.Random(508)
        for _ in range(120):
            grammar, prices, row = sound_grammar(chosen, 7, 4), some_prices(chosen), some_row(chosen, 4)
            entries = least_of_all_trees(grammar, prices, row)
            self.assertEqual(outer_prices(grammar, prices, row, entries), outer_in_rounds(grammar, prices, row, entries), (grammar, prices, row))


class Slacks(unittest.TestCase):
    def test_the_sums(self):
        """A slack is the outer price and the price of the entry, less the price of the told mending."""
        chosen = random.Random(509)
        for _ in range(100):
            grammar, prices, row = sound_grammar(chosen), some_prices(chosen), some_row(chosen, 4)
            entries = table(grammar, prices, row)
            outer, found = outer_prices(grammar, prices, row, entries), slacks(grammar, prices, row, entries)
            told = told_mending(grammar, prices, row, entries)[0]
            self.assertEqual(sorted(found), stretches_of(row))
            for (i, j), slack in found.items():
                self.assertEqual(sorted(slack), sorted({name for name, _ in grammar}))
                for name in slack:
                    if outer[(i, j)][name] is None or entries[(i, j)][("name", name)] is None:
                        self.assertIsNone(slack[name])
                    else:
                        self.assertEqual(slack[name], outer[(i, j)][name] + entries[(i, j)][("name", name)][0] - told)
                        self.assertGreaterEqual(slack[name], 0)

    def test_each_tree_of_the_told_mending(self):
        """It has the slack 0, and so has no tree that is in no whole mending with the least price."""
        chosen = random.Random(510)
        compared = 0
        while compared < 80:
            grammar, prices, row = sound_grammar(chosen, 4, 2), some_prices(chosen), some_row(chosen, 2)
            entries = table(grammar, prices, row)
            price, _, m, one = told_mending(grammar, prices, row, entries)
            found = slacks(grammar, prices, row, entries)
            for inner in trees_within(one):
                self.assertEqual(found[inner[3:5]][inner[1]], 0)
            if outer_of_all_mendings(grammar, prices, row, 300) is not None:
                least = {inner[1:2] + inner[3:5] for m in range(len(row) + 1) for one in trees_twice(grammar, row, grammar[0][0], 0, m)
                         if told_cost(prices, row, one)[0] + left_out(prices, row[m:]) == price for inner in trees_within(one)}
                zero = {(name,) + stretch for stretch in found for name in found[stretch] if found[stretch][name] == 0}
                self.assertEqual(zero, least, (grammar, prices, row))
                compared += 1

    def test_ordinary(self):
        row = ["OPEN", "CLOSE"]
        found = slacks(LISTS, PLAIN, row, table(LISTS, PLAIN, row))
        self.assertEqual(found[(0, 2)], {"list": 0, "items": 6})
        self.assertEqual(found[(1, 1)], {"list": 6, "items": 0})
        self.assertEqual(found[(0, 0)], {"list": 10, "items": 5})

    def test_none(self):
        grammar = [("a", ["b", "A"]), ("b", [])]
        found = slacks(grammar, PLAIN, ["A"], table(grammar, PLAIN, ["A"]))
        self.assertEqual(found, {(0, 0): {"a": 5, "b": 0}, (0, 1): {"a": 0, "b": None}, (1, 1): {"a": None, "b": None}})

    def test_60_signs(self):
        row = ["NUMBER", "PLUS", "OTHER", "NUMBER", "NUMBER", "PLUS"] * 10
        entries = table(SUMS, PLAIN, row)
        found = slacks(SUMS, PLAIN, row, entries)
        self.assertEqual(len(found), 1891)
        self.assertGreaterEqual(min(slack for each in found.values() for slack in each.values() if slack is not None), 0)
        for inner in trees_within(told_mending(SUMS, PLAIN, row, entries)[3]):
            self.assertEqual(found[inner[3:5]][inner[1]], 0)


class NothingIsModified(unittest.TestCase):
    def setUp(self):
        self.grammar = copy.deepcopy(LISTS)
        self.prices = (3, 2, 4, {("out", "OTHER"): 1})
        self.row = ["OPEN", "OTHER", "OPEN"]
        self.entries = table(self.grammar, self.prices, self.row)

    def test_arguments(self):
        arguments = (self.grammar, self.prices, self.row, self.entries)
        kept = copy.deepcopy(arguments)
        outer_prices(*arguments)
        slacks(*arguments)
        self.assertEqual(arguments, kept)

    def test_what_is_returned_is_new(self):
        arguments = (self.grammar, self.prices, self.row, self.entries)
        for function in [outer_prices, slacks]:
            first = function(*arguments)
            kept = copy.deepcopy(first)
            self.assertEqual(len({id(one) for one in first.values()}), len(first))
            for found in first.values():
                found.clear()
            first.clear()
            self.assertEqual(function(*arguments), kept)


if __name__ == "__main__":
    unittest.main()
