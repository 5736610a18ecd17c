"""Points 2, 302, 304 to 306, 401 and 402, and leastmend/trees/trees.py."""

import copy
import inspect
import itertools
import random
import unittest

from leastmend.trees import trees as module
from leastmend.trees.trees import before, is_tree, tree_cost
from test_table import LISTS, PLAIN, SUMS, some_prices, some_row, sound_grammar
from told import all_trees, at_most, told_before, told_cost, told_decision, told_is_tree


class TheInterface(unittest.TestCase):
    def test_the_functions_and_their_arguments(self):
        wanted = [("is_tree", ["grammar", "row", "tree"]), ("tree_cost", ["prices", "row", "tree"]),
                  ("before", ["prices", "row", "one", "two"])]
        for name, arguments in wanted:
            function = getattr(module, name)
            self.assertEqual(function.__module__, "leastmend.trees.trees")
            self.assertEqual(list(inspect.signature(function).parameters), arguments)


def leaf(kind, i, j):
    """Return a leaf."""
    return ("leaf", kind, i, j)


def tree(name, rule, i, j, *parts):
    """Return a tree."""
    return ("tree", name, rule, i, j, list(parts))


def nested(many, inner):
    """Return a list within so many lists of the grammar LISTS, all of them over the empty stretch from 0 to 0."""
    found = inner
    for _ in range(many):
        items = tree("items", 2, 0, 0, found, tree("items", 1, 0, 0))
        found = tree("list", 0, 0, 0, leaf("OPEN", 0, 0), items, leaf("CLOSE", 0, 0))
    return found


ROW = ["OPEN", "OPEN", "CLOSE", "CLOSE"]
INNER = tree("list", 0, 1, 3, leaf("OPEN", 1, 2), tree("items", 1, 2, 2), leaf("CLOSE", 2, 3))
ITEMS = tree("items", 2, 1, 3, INNER, tree("items", 1, 3, 3))
WHOLE = tree("list", 0, 0, 4, leaf("OPEN", 0, 1), ITEMS, leaf("CLOSE", 3, 4))
NOTHING = tree("list", 0, 0, 0, leaf("OPEN", 0, 0), tree("items", 1, 0, 0), leaf("CLOSE", 0, 0))


def whole_around(items):
    """Return the tree WHOLE with other items in it."""
    return tree("list", 0, 0, 4, leaf("OPEN", 0, 1), items, leaf("CLOSE", 3, 4))


def whole_around_inner(inner):
    """Return the tree WHOLE with another list in its items."""
    return whole_around(tree("items", 2, 1, 3, inner, tree("items", 1, 3, 3)))


class IsTree(unittest.TestCase):
    def check(self, wanted, *trees):
        """These are trees over the row, or none of them is."""
        for one in trees:
            found = is_tree(LISTS, ROW, one)
            self.assertIs(found, wanted, one)
            self.assertIs(told_is_tree(LISTS, ROW, one), wanted, one)

    def test_leaves(self):
        self.check(True, *[leaf(kind, i, j) for kind in ["OPEN", "CLOSE"] for i in range(5) for j in range(i, 5)])
        self.assertIs(is_tree(LISTS, [], leaf("OPEN", 0, 0)), True)
        self.assertIs(is_tree(LISTS, [], leaf("OPEN", 0, 1)), False)

    def test_leaves_of_kinds_that_stand_in_no_rule(self):
        self.check(False, leaf("PLUS", 0, 1), leaf("OTHER", 0, 1), leaf("", 0, 0), leaf("open", 0, 1), leaf("OPENS", 0, 1))
        self.assertIs(is_tree(LISTS, ["PLUS"], leaf("PLUS", 0, 1)), False)
        self.assertIs(is_tree(LISTS, ["OTHER"], leaf("OTHER", 0, 1)), False)
        self.assertIs(is_tree([("a", [])], ["A"], leaf("A", 0, 1)), False)

    def test_leaves_of_names(self):
        self.check(False, leaf("list", 0, 1), leaf("items", 0, 0))

    def test_leaves_over_other_stretches(self):
        self.check(False, leaf("OPEN", 1, 0), leaf("OPEN", 4, 3), leaf("OPEN", -1, 0), leaf("OPEN", -1, -1), leaf("OPEN", 0, -1),
                   leaf("OPEN", 0, 5), leaf("OPEN", 4, 5), leaf("OPEN", 5, 5), leaf("OPEN", 5, 4), leaf("OPEN", -2, 9))

    def test_trees(self):
        self.check(True, WHOLE, ITEMS, INNER, tree("items", 1, 0, 0), tree("items", 1, 4, 4), NOTHING, nested(3, NOTHING))
        self.assertIs(is_tree([("a", ["A"])], ["X"], tree("a", 0, 0, 1, leaf("A", 0, 1))), True)
        self.assertIs(is_tree([("a", ["A"])], [], tree("a", 0, 0, 0, leaf("A", 0, 0))), True)

    def test_signs_that_are_left_out_and_put_in(self):
        self.check(True, tree("list", 0, 0, 4, leaf("OPEN", 0, 0), tree("items", 1, 0, 0), leaf("CLOSE", 0, 4)),
                   tree("list", 0, 0, 4, leaf("OPEN", 0, 4), tree("items", 1, 4, 4), leaf("CLOSE", 4, 4)),
                   tree("list", 0, 1, 3, leaf("OPEN", 1, 3), tree("items", 1, 3, 3), leaf("CLOSE", 3, 3)))

    def test_names_within_themselves(self):
        grammar = [("a", ["a"]), ("a", ["A"])]
        one = tree("a", 1, 0, 1, leaf("A", 0, 1))
        for _ in range(3):
            self.assertIs(is_tree(grammar, ["A"], one), True)
            one = tree("a", 0, 0, 1, one)

    def test_rules_without_symbols(self):
        self.check(True, *[tree("items", 1, k, k) for k in range(5)])
        self.check(False, *[tree("items", 1, i, j) for i in range(5) for j in range(i + 1, 5)])
        self.check(False, tree("items", 1, 1, 0), tree("items", 1, 5, 5), tree("items", 1, -1, -1))
        self.check(False, tree("items", 1, 0, 0, leaf("OPEN", 0, 0)), tree("items", 1, 0, 0, tree("items", 1, 0, 0)))

    def test_numbers_of_rules(self):
        for rule in [-1, -2, -3, -4, 3, 4, 99, 2 ** 32 - 1, -2 ** 32]:
            self.check(False, tree("items", rule, 0, 0), tree("list", rule, 1, 3, *INNER[5]), tree("items", rule, 1, 3, *ITEMS[5]))

    def test_rules_of_other_names(self):
        self.check(False, tree("items", 0, 1, 3, *INNER[5]), tree("list", 1, 0, 0), tree("list", 2, 1, 3, *ITEMS[5]),
                   tree("", 1, 0, 0), tree("item", 1, 0, 0), tree("OPEN", 1, 0, 0))
        # Another rule of the same name is not the one of these parts.
        self.check(False, tree("items", 2, 0, 0), tree("items", 1, 1, 3, *ITEMS[5]))

    def test_too_many_and_too_few_parts(self):
        for parts in [INNER[5][:2], INNER[5][1:], INNER[5][:1] + INNER[5][2:], [], INNER[5] + [leaf("CLOSE", 3, 3)],
                      [leaf("OPEN", 1, 1)] + INNER[5], INNER[5] + [tree("items", 1, 3, 3)], INNER[5] + INNER[5]]:
            self.check(False, tree("list", 0, 1, 3, *parts))

    def test_parts_that_are_exchanged(self):
        self.check(True, tree("list", 0, 1, 1, leaf("OPEN", 1, 1), tree("items", 1, 1, 1), leaf("CLOSE", 1, 1)))
        parts = [leaf("OPEN", 1, 1), tree("items", 1, 1, 1), leaf("CLOSE", 1, 1)]
        for order in itertools.permutations(parts):
            self.check(list(order) == parts, tree("list", 0, 1, 1, *order))
        for part in [leaf("CLOSE", 1, 1), leaf("PLUS", 1, 1), tree("list", 0, 1, 1, *parts), leaf("items", 1, 1)]:
            self.check(False, tree("list", 0, 1, 1, part, *parts[1:]), tree("list", 0, 1, 1, parts[0], part, parts[2]))

    def test_leaves_and_trees_in_each_others_place(self):
        parts = [leaf("OPEN", 1, 1), tree("items", 1, 1, 1), leaf("CLOSE", 1, 1)]
        self.check(False, tree("list", 0, 1, 1, parts[0], leaf("items", 1, 1), parts[2]),
                   tree("list", 0, 1, 1, tree("OPEN", 1, 1, 1), *parts[1:]),
                   tree("list", 0, 1, 1, tree("OPEN", 0, 1, 1, *parts), *parts[1:]),
                   tree("list", 0, 1, 1, tree("items", 1, 1, 1), *parts[1:]), leaf("list", 1, 1), tree("OPEN", 0, 0, 1))

    def test_parts_that_do_not_follow_each_other(self):
        self.check(True, tree("list", 0, 1, 3, leaf("OPEN", 1, 2), tree("items", 1, 2, 2), leaf("CLOSE", 2, 3)))
        stretches = list(itertools.product(range(1, 4), repeat=2))
        for one, two, three in itertools.product(stretches, repeat=3):
            follows = (one[0], one[1], two[1], three[1]) == (1, two[0], three[0], 3)
            follows = follows and all(i <= j for i, j in [one, two, three]) and two[0] == two[1]
            self.check(follows, tree("list", 0, 1, 3, leaf("OPEN", *one), tree("items", 1, *two), leaf("CLOSE", *three)))

    def test_stretches_that_end_before_they_begin(self):
        self.check(False, tree("list", 0, 3, 1, leaf("OPEN", 3, 2), tree("items", 1, 2, 2), leaf("CLOSE", 2, 1)))
        # The parts follow each other, and the last one leads back to the beginning.
        self.check(False, tree("list", 0, 1, 1, leaf("OPEN", 1, 3), tree("items", 1, 3, 3), leaf("CLOSE", 3, 1)))
        self.check(False, tree("list", 0, 1, 2, leaf("OPEN", 1, 0), tree("items", 1, 0, 0), leaf("CLOSE", 0, 2)))
        self.check(False, tree("items", 1, 1, 0))

    def test_stretches_beyond_the_row(self):
        self.check(False, tree("list", 0, 3, 5, leaf("OPEN", 3, 4), tree("items", 1, 4, 4), leaf("CLOSE", 4, 5)),
                   tree("list", 0, -1, 1, leaf("OPEN", -1, 0), tree("items", 1, 0, 0), leaf("CLOSE", 0, 1)),
                   tree("list", 0, 5, 5, leaf("OPEN", 5, 5), tree("items", 1, 5, 5), leaf("CLOSE", 5, 5)))
        self.check(False, tree("list", 0, 0, 4, leaf("OPEN", 0, 5), tree("items", 1, 5, 5), leaf("CLOSE", 5, 4)),
                   tree("list", 0, 0, 4, leaf("OPEN", 0, -1), tree("items", 1, -1, -1), leaf("CLOSE", -1, 4)))
        self.assertIs(is_tree(LISTS, ROW[:3], WHOLE), False)
        self.assertIs(is_tree(LISTS, ROW + ["X"], WHOLE), True)

    def test_faults_deep_within_a_tree(self):
        opened, items, closed = INNER[5]
        self.check(True, whole_around(ITEMS), whole_around_inner(INNER))
        self.check(False, *[whole_around_inner(inner) for inner in [
            tree("list", 3, 1, 3, *INNER[5]), tree("list", -3, 1, 3, *INNER[5]), tree("list", 1, 1, 3, *INNER[5]),
            tree("lists", 0, 1, 3, *INNER[5]), tree("items", 1, 1, 3), tree("list", 0, 1, 3, opened, items),
            tree("list", 0, 1, 3, opened, items, closed, closed), tree("list", 0, 1, 3, closed, items, opened),
            tree("list", 0, 1, 4, *INNER[5]), tree("list", 0, 0, 3, *INNER[5]), tree("list", 0, 1, 2, *INNER[5]),
            tree("list", 0, 1, 3, leaf("OPEN", 0, 2), items, closed), tree("list", 0, 1, 3, opened, items, leaf("CLOSE", 2, 4)),
            tree("list", 0, 1, 3, leaf("OPEN", 1, 1), items, closed),
            tree("list", 0, 1, 3, opened, tree("items", 1, 1, 1), closed),
            tree("list", 0, 1, 3, opened, tree("items", 1, 2, 3), leaf("CLOSE", 3, 3)), leaf("list", 1, 3), leaf("OPEN", 1, 3),
            tree("list", 0, 1, 3, opened, leaf("items", 2, 2), closed), tree("list", 0, 1, 3, leaf("PLUS", 1, 2), items, closed),
            tree("list", 0, 1, 3, leaf("OPEN", 1, 9), tree("items", 1, 9, 9), leaf("CLOSE", 9, 3)),
        ]])

    def test_a_fault_in_any_part(self):
        grammar = [("a", ["b", "b", "b"]), ("b", ["A"]), ("b", [])]
        good, bad = tree("b", 1, 0, 0, leaf("A", 0, 0)), tree("b", 2, 0, 0, leaf("A", 0, 0))
        for parts in itertools.product([good, bad], repeat=3):
            self.assertIs(is_tree(grammar, [], tree("a", 0, 0, 0, *parts)), bad not in parts)

    def test_any_tuple(self):
        """Tuples that are written as trees, nested in any way."""
        chosen = random.Random(401)
        words = ["list", "items", "OPEN", "CLOSE", "", "PLUS", "\n", "leaf", "tree"]
        numbers = [-2, -1, 0, 1, 2, 3, 4, 5, 2 ** 40]

        def some(depth):
            if depth == 0 or chosen.random() < 0.3:
                return leaf(chosen.choice(words), chosen.choice(numbers), chosen.choice(numbers))
            parts = [some(depth - 1) for _ in range(chosen.randrange(0, 4))]
            return tree(*[chosen.choice(words)], *[chosen.choice(numbers) for _ in range(3)], *parts)

        for _ in range(3000):
            one = some(3)
            self.assertIs(is_tree(LISTS, ROW, one), told_is_tree(LISTS, ROW, one), one)

    def test_trees_with_one_thing_changed(self):
        """Trees of many grammars, some of them with a number, a word or a part that is not theirs."""
        chosen = random.Random(402)
        counts = {True: 0, False: 0}
        while min(counts.values()) < 300:
            grammar, row = sound_grammar(chosen), some_row(chosen, 3)
            trees = at_most(60, itertools.islice(all_trees(grammar, row, grammar[0][0], 0, len(row)), 60))
            for one in chosen.sample(trees, min(8, len(trees))):
                self.assertIs(is_tree(grammar, row, one), True, (grammar, row, one))
                other = self.changed(chosen, one)
                wanted = told_is_tree(grammar, row, other)
                self.assertIs(is_tree(grammar, row, other), wanted, (grammar, row, other))
                counts[wanted] += 1

    def changed(self, chosen, one):
        """Return a leaf or tree with something changed in it."""
        if one[0] == "leaf":
            at = chosen.randrange(1, 4)
            fresh = chosen.choice("ABCab") if at == 1 else one[at] + chosen.choice([-1, 1])
            return one[:at] + (fresh,) + one[at + 1:]
        parts = list(one[5])
        if parts and chosen.random() < 0.6:
            k = chosen.randrange(len(parts))
            parts[k:k + 1] = chosen.choice([[self.changed(chosen, parts[k])]] * 4 + [[], parts[k:k + 1] * 2])
            return one[:5] + (parts,)
        at = chosen.randrange(1, 5)
        fresh = chosen.choice("abcA") if at == 1 else one[at] + chosen.choice([-1, 1])
        return one[:at] + (fresh,) + one[at + 1:]

    def test_trees_that_are_nested_deep(self):
        self.assertIs(is_tree(LISTS, [], nested(3000, NOTHING)), True)
        wrong = tree("list", 0, 0, 0, leaf("OPEN", 0, 0), tree("items", 1, 0, 1), leaf("CLOSE", 0, 0))
        self.assertIs(is_tree(LISTS, [], nested(3000, wrong)), False)


class TreeCost(unittest.TestCase):
    def check(self, prices, row, one, wanted):
        found = tree_cost(prices, row, one)
        self.assertEqual(found, wanted)
        self.assertEqual(found, told_cost(prices, row, one))
        self.assertEqual([part.__class__ for part in (found,) + found], [tuple, int, int])

    def test_leaves(self):
        row = ["A", "B", "OTHER"]
        for i, j, price in [(0, 0, 3), (3, 3, 3), (0, 1, 0), (1, 2, 4), (2, 3, 4), (0, 2, 6), (1, 3, 6), (0, 3, 8)]:
            self.check(PLAIN, row, leaf("A", i, j), (price, 1))
        for i, j, price in [(0, 1, 4), (1, 2, 0), (0, 2, 2), (1, 3, 6), (0, 3, 8)]:
            self.check(PLAIN, row, leaf("B", i, j), (price, 1))

    def test_exceptions(self):
        prices = (3, 2, 4, {("put", "A"): 7, ("out", "B"): 11, ("change", "C", "A"): 13, ("change", "OTHER", "A"): 17,
                            ("out", "OTHER"): 19, ("change", "A", "C"): 23})
        row = ["B", "C", "OTHER", "A"]
        for kind, i, j, price in [("A", 1, 1, 7), ("B", 1, 1, 3), ("A", 0, 2, 24), ("A", 1, 2, 13), ("A", 0, 3, 30),
                                  ("A", 2, 4, 19), ("C", 3, 4, 23), ("C", 2, 4, 42), ("A", 0, 4, 32), ("C", 0, 2, 11)]:
            self.check(prices, row, leaf(kind, i, j), (price, 1))

    def test_sizes(self):
        self.check(PLAIN, [], tree("a", 0, 0, 0), (0, 1))
        self.check(PLAIN, ["A"], tree("a", 0, 0, 1, leaf("A", 0, 1)), (0, 2))
        self.check(PLAIN, ["A"], tree("a", 1, 0, 1, tree("a", 0, 0, 0), leaf("A", 0, 1), tree("a", 0, 1, 1)), (0, 4))
        self.check(PLAIN, ROW, ITEMS, (0, 6))
        self.check(PLAIN, ROW, WHOLE, (0, 9))

    def test_trees_within_trees(self):
        row = ["OPEN", "X", "CLOSE", "OPEN"]
        inner = tree("list", 0, 2, 3, leaf("OPEN", 2, 2), tree("items", 1, 2, 2), leaf("CLOSE", 2, 3))
        changed = tree("list", 0, 1, 3, leaf("OPEN", 1, 2), tree("items", 1, 2, 2), leaf("CLOSE", 2, 3))
        items = tree("items", 2, 1, 3, changed, tree("items", 1, 3, 3))
        self.check(PLAIN, row, inner, (3, 4))
        self.check(PLAIN, row, changed, (4, 4))
        self.check(PLAIN, row, items, (4, 6))
        self.check(PLAIN, row, tree("list", 0, 0, 4, leaf("OPEN", 0, 1), items, leaf("CLOSE", 3, 4)), (8, 9))
        self.check(PLAIN, row, tree("list", 0, 0, 4, leaf("OPEN", 0, 2), tree("items", 1, 2, 2), leaf("CLOSE", 2, 4)), (12, 4))

    def test_equal_parts_count_each_time(self):
        part = tree("b", 1, 0, 0, leaf("A", 0, 0))
        self.check(PLAIN, [], tree("a", 0, 0, 0, part, part, part), (9, 7))

    def test_trees_that_are_nested_deep(self):
        self.assertEqual(tree_cost(PLAIN, [], nested(3000, NOTHING)), (6 * 3001, 4 + 5 * 3000))


class Before(unittest.TestCase):
    def check(self, decided_by, prices, row, one, two):
        """The first tree is ordered before the second one, and this is what decides."""
        self.assertEqual(told_decision(prices, row, one, two), (decided_by, True))
        self.assertIs(before(prices, row, one, two), True)
        self.assertIs(before(prices, row, two, one), False)
        for same in [one, two]:
            self.assertIs(before(prices, row, same, copy.deepcopy(same)), False)

    def test_the_price(self):
        # The size, the rule, the ends and the parts of the second one are less.
        row = ["A", "B"]
        one = tree("a", 1, 0, 2, tree("b", 4, 0, 2, leaf("A", 0, 1), leaf("B", 1, 2)), leaf("A", 2, 2))
        two = tree("a", 0, 0, 2, leaf("A", 0, 2))
        self.check("price", (3, 2, 4, {}), row, one, two)
        self.check("price", (7, 2, 4, {}), row, two, one)

    def test_the_size(self):
        # The rule, the ends and the parts of the second one are less.
        one = tree("a", 1, 0, 2, leaf("A", 0, 1), leaf("B", 1, 2))
        two = tree("a", 0, 0, 2, tree("b", 2, 0, 0), leaf("A", 0, 1), leaf("B", 1, 2))
        self.check("size", PLAIN, ["A", "B"], one, two)

    def test_the_rule(self):
        # The ends and the parts of the second one are less.
        one = tree("a", 0, 0, 2, tree("b", 3, 0, 2, leaf("A", 0, 2)), tree("b", 2, 2, 2))
        two = tree("a", 1, 0, 2, tree("b", 2, 0, 0), tree("b", 3, 0, 2, leaf("A", 0, 2)))
        self.check("rule", PLAIN, ["A", "A"], one, two)

    def test_the_ends(self):
        row = ["X", "X", "A"]
        one = tree("a", 0, 0, 3, leaf("B", 0, 1), leaf("A", 1, 2), leaf("A", 2, 3))
        two = tree("a", 0, 0, 3, leaf("B", 0, 1), leaf("A", 1, 3), leaf("A", 3, 3))
        three = tree("a", 0, 0, 3, leaf("B", 0, 2), leaf("A", 2, 3), leaf("A", 3, 3))
        for first, second in [(one, two), (two, three), (one, three)]:
            self.check("ends", (1, 1, 2, {}), row, first, second)

    def test_the_ends_count_before_the_parts(self):
        # The first part of the second tree has a lower size and a lower rule.
        row = ["B", "B"]
        prices = (3, 2, 4, {("out", "B"): 1, ("put", "B"): 1})
        early = tree("a", 0, 0, 2, tree("b", 2, 0, 1, leaf("B", 0, 0), leaf("B", 0, 1)), tree("c", 3, 1, 2, leaf("B", 1, 2)))
        last = tree("c", 4, 2, 2, tree("e", 5, 2, 2), tree("e", 5, 2, 2))
        late = tree("a", 0, 0, 2, tree("b", 1, 0, 2, leaf("B", 0, 2)), last)
        self.check("ends", prices, row, early, late)

    def test_the_parts_by_their_price(self):
        prices = (3, 2, 4, {("put", "A"): 1})
        cheap, dear = tree("b", 2, 0, 0, leaf("A", 0, 0)), tree("b", 1, 0, 0, leaf("B", 0, 0))
        self.check("part 0 by price", prices, [], tree("a", 0, 0, 0, cheap, dear), tree("a", 0, 0, 0, dear, cheap))
        self.check("part 1 by price", prices, [], tree("a", 0, 0, 0, cheap, cheap, dear), tree("a", 0, 0, 0, cheap, dear, cheap))

    def test_the_parts_by_their_size(self):
        small, large = tree("b", 2, 0, 0, leaf("A", 0, 0)), tree("b", 1, 0, 0, leaf("A", 0, 0), tree("c", 3, 0, 0))
        self.check("part 0 by size", PLAIN, [], tree("a", 0, 0, 0, small, large), tree("a", 0, 0, 0, large, small))

    def test_the_parts_by_their_rule(self):
        low, high = tree("b", 1, 0, 0, leaf("B", 0, 0)), tree("b", 2, 0, 0, leaf("A", 0, 0))
        self.check("part 0 by rule", PLAIN, [], tree("a", 0, 0, 0, low, high), tree("a", 0, 0, 0, high, low))
        self.check("part 0 by rule", PLAIN, [], tree("a", 0, 0, 0, low), tree("a", 0, 0, 0, high))

    def test_the_parts_by_their_ends_and_parts(self):
        row = ["A"]
        early = tree("b", 1, 0, 1, leaf("A", 0, 0), leaf("A", 0, 1))
        late = tree("b", 1, 0, 1, leaf("A", 0, 1), leaf("A", 1, 1))
        self.check("part 0 by ends", PLAIN, row, tree("a", 0, 0, 1, early), tree("a", 0, 0, 1, late))
        low, high = tree("c", 2, 0, 1, early), tree("c", 2, 0, 1, late)
        self.check("part 0 by part 0 by ends", PLAIN, row, tree("a", 0, 0, 1, low), tree("a", 0, 0, 1, high))

    def test_all_of_the_first_part_counts_before_the_second_one(self):
        low, high = tree("d", 5, 0, 0, leaf("A", 0, 0)), tree("d", 6, 0, 0, leaf("B", 0, 0))
        one = tree("a", 0, 0, 0, tree("b", 1, 0, 0, low), tree("c", 4, 0, 0, leaf("A", 0, 0)))
        two = tree("a", 0, 0, 0, tree("b", 1, 0, 0, high), tree("c", 3, 0, 0, leaf("A", 0, 0)))
        self.check("part 0 by part 0 by rule", PLAIN, [], one, two)

    def test_leaves(self):
        row = ["A", "B"]
        for i, j in itertools.combinations_with_replacement(range(3), 2):
            for kind in ["A", "B"]:
                self.assertIs(before(PLAIN, row, leaf(kind, i, j), leaf(kind, i, j)), False)

    def test_equal_trees(self):
        for one in [WHOLE, INNER, ITEMS, tree("items", 1, 0, 0)]:
            self.assertIs(before(PLAIN, ROW, one, one), False)
            self.assertIs(before(PLAIN, ROW, one, copy.deepcopy(one)), False)

    def test_all_trees_of_small_rows(self):
        chosen = random.Random(403)
        compared = 0
        while compared < 6000:
            grammar, prices, row = sound_grammar(chosen, 5, 3), some_prices(chosen), some_row(chosen, 3)
            trees = at_most(60, all_trees(grammar, row, grammar[0][0], 0, len(row)))
            for one, two in itertools.product((trees or [])[:20], repeat=2):
                wanted = told_before(prices, row, one, two)
                self.assertIs(before(prices, row, one, two), wanted, (grammar, prices, row, one, two))
                self.assertEqual(tree_cost(prices, row, one), told_cost(prices, row, one))
                compared += 1

    def test_trees_that_are_nested_deep(self):
        one, two = nested(3000, NOTHING), nested(2999, NOTHING)
        self.assertIs(before(PLAIN, [], two, one), True)
        self.assertIs(before(PLAIN, [], one, two), False)
        self.assertIs(before(PLAIN, [], one, one), False)


class NothingIsModified(unittest.TestCase):
    def test_arguments(self):
        prices = (3, 2, 4, {("out", "OPEN"): 1})
        other = whole_around(tree("items", 2, 1, 3, INNER, tree("items", 1, 3, 4)))
        arguments = [LISTS, SUMS, ROW, prices, WHOLE, other]
        kept = copy.deepcopy(arguments)
        for one in [WHOLE, other, INNER, leaf("OPEN", 0, 0)]:
            for grammar in [LISTS, SUMS]:
                is_tree(grammar, ROW, one)
            tree_cost(prices, ROW, one)
        before(prices, ROW, WHOLE, other)
        self.assertEqual(arguments, kept)


if __name__ == "__main__":
    unittest.main()
