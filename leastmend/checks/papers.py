"""Papers: bounds from below for the prices of trees and mendings, and the check of a mending by one."""

from leastmend.checks.sums import at_most, least_sum, prices_of_table, sum_of, symbol_numbers
from leastmend.grammars.grammar import names_of
from leastmend.tables.leaves import prices_behind, shorter_first
from leastmend.tables.table import whole_cost
from leastmend.trees.trees import is_tree, tree_cost


def tight_paper(grammar, prices, row, entries):
    """Return the paper with the prices of all entries, and that of the told mending as its whole."""
    whole, size, m = whole_cost(grammar, prices, row, entries)
    return whole, prices_of_table(entries)


def is_bound(grammar, prices, row, paper):
    """Tell whether a paper is a bound from below; if a value that this depends on is missing or negative, it is not."""
    whole, bounds = paper
    stretches = shorter_first(len(row))
    keys = _keys_of(grammar)
    if not all(_has_values(bounds, stretch, keys) for stretch in stretches):
        return False
    numbers = symbol_numbers(grammar, prices, row, bounds)
    if not all(_stretch_holds(grammar, numbers, bounds, i, j) for i, j in stretches):
        return False
    return _whole_holds(grammar, prices, row, paper)


def _keys_of(grammar):
    """Return the keys that the values of each stretch have."""
    keys = [("name", name) for name in names_of(grammar)]
    for rule, (name, symbols) in enumerate(grammar):
        keys.extend([("rest", rule, dot) for dot in range(len(symbols) + 1)])
    return keys


def _has_values(bounds, stretch, keys):
    """Tell whether the stretch has a value for each of the keys, none of them negative."""
    if stretch not in bounds:
        return False
    found = bounds[stretch]
    return all(key in found and at_most(0, found[key]) for key in keys)


def _stretch_holds(grammar, numbers, bounds, i, j):
    """Tell whether the values of a stretch are at most what they are made of."""
    heads = [numbers[(i, k)] for k in range(i, j + 1)]
    tails = [bounds[(k, j)] for k in range(i, j + 1)]
    found = bounds[(i, j)]
    for rule, (name, symbols) in enumerate(grammar):
        if i == j and found[("rest", rule, len(symbols))] != 0:
            return False
        if not at_most(found[("name", name)], found[("rest", rule, 0)]):
            return False
        for dot, symbol in enumerate(symbols):
            made = least_sum(heads, symbol, tails, ("rest", rule, dot + 1))
            if not at_most(found[("rest", rule, dot)], made):
                return False
    return True


def _whole_holds(grammar, prices, row, paper):
    """Tell whether the whole of a paper is at most each sum that a whole mending is made of."""
    whole, bounds = paper
    start = ("name", grammar[0][0])
    behind = prices_behind(prices, row)
    return all(at_most(whole, sum_of(bounds[(0, m)][start], price)) for m, price in enumerate(behind))


def check_mending(grammar, prices, row, m, tree, paper):
    """Tell whether the paper shows that the whole mending with the tree over the signs from 0 to m is a least one."""
    if not is_tree(grammar, row, tree) or not _is_tree_of(tree, grammar[0][0], m):
        return False
    price = tree_cost(prices, row, tree)[0] + prices_behind(prices, row)[m]
    return price == paper[0] and is_bound(grammar, prices, row, paper)


def _is_tree_of(tree, name, m):
    """Tell whether a leaf or tree is a tree of the name over the stretch from 0 to m."""
    return tree[:2] == ("tree", name) and tree[3:5] == (0, m)
