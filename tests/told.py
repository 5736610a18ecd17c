"""Trees as the document tells them, made by trying everything; the tests compare the program with them."""

import itertools

from test_table import told_leaf


def all_trees(grammar, row, name, i, j, around=frozenset()):
    """Yield all trees of a name over a stretch that contain no tree of their own name over their own stretch."""
    if (name, i, j) in around:
        return
    for rule, (owner, symbols) in enumerate(grammar):
        if owner == name:
            for parts in all_parts(grammar, row, symbols, i, j, around | {(name, i, j)}):
                yield ("tree", name, rule, i, j, parts)


def all_parts(grammar, row, symbols, i, j, around):
    """Yield all lists of leaves and trees for the symbols over stretches that follow each other from i to j."""
    if not symbols:
        if i == j:
            yield []
        return
    names = [name for name, _ in grammar]
    for k in range(i, j + 1):
        for others in all_parts(grammar, row, symbols[1:], k, j, around):
            if symbols[0] in names:
                heads = all_trees(grammar, row, symbols[0], i, k, around)
            else:
                heads = [("leaf", symbols[0], i, k)]
            for head in heads:
                yield [head] + others


def at_most(many, trees):
    """Return the list of trees if there are at most so many, otherwise None."""
    found = list(itertools.islice(trees, many + 1))
    return found if len(found) <= many else None


def told_cost(prices, row, tree):
    """Return the cost of a leaf or tree as points 304 and 305 tell it."""
    if tree[0] == "leaf":
        return told_leaf(prices, row, *tree[1:])
    costs = [told_cost(prices, row, part) for part in tree[5]]
    return (sum(price for price, _ in costs), 1 + sum(size for _, size in costs))


def told_decision(prices, row, one, two):
    """Return what decides which of two trees is the first one, and True if it is the first tree; None if nothing does."""
    if one[0] == "leaf":
        return None
    costs = [told_cost(prices, row, tree) for tree in (one, two)]
    ends = [[part[3] if part[0] == "leaf" else part[4] for part in tree[5]] for tree in (one, two)]
    for word, first, second in [("price", costs[0][0], costs[1][0]), ("size", costs[0][1], costs[1][1]),
                                ("rule", one[2], two[2]), ("ends", ends[0], ends[1])]:
        if first != second:
            return (word, first < second)
    for place, (first, second) in enumerate(zip(one[5], two[5])):
        found = told_decision(prices, row, first, second)
        if found:
            return ("part {} by {}".format(place, found[0]), found[1])
    return None


def told_before(prices, row, one, two):
    """Tell whether the first one of two trees is ordered before the second one, as point 402 tells it."""
    found = told_decision(prices, row, one, two)
    return found is not None and found[1]


def first_of(prices, row, trees):
    """Return the first one of some trees, None if there is none."""
    best = None
    for tree in trees:
        if best is None or told_before(prices, row, tree, best):
            best = tree
    return best


def told_is_tree(grammar, row, tree):
    """Tell whether a tuple is a leaf or a tree as points 304 and 305 tell it."""
    names = [name for name, _ in grammar]
    if tree[0] == "leaf":
        _, kind, i, j = tree
        kinds = [symbol for _, symbols in grammar for symbol in symbols if symbol not in names]
        return kind in kinds and 0 <= i <= j <= len(row)
    _, name, rule, i, j, parts = tree
    if rule not in range(len(grammar)) or grammar[rule][0] != name or not 0 <= i <= j <= len(row):
        return False
    symbols = grammar[rule][1]
    if len(symbols) != len(parts):
        return False
    at = i
    for symbol, part in zip(symbols, parts):
        if part[0] != ("tree" if symbol in names else "leaf") or part[1] != symbol:
            return False
        start, end = part[-2:] if part[0] == "leaf" else part[3:5]
        if start != at or not told_is_tree(grammar, row, part):
            return False
        at = end
    return at == j


def told_mends(prices, row, m, tree):
    """Return the mends of a whole mending, the row behind them and their price, sign by sign from the left."""
    if tree[0] == "tree":
        mends, made, price = [], [], 0
        for part in tree[5]:
            more = told_mends(prices, row, None, part)
            mends, made, price = mends + more[0], made + more[1], price + more[2]
    else:
        _, kind, i, j = tree
        mends, made, price = [("out", k) for k in range(i, j - 1)], [kind], told_leaf(prices, row, kind, i, j)[0]
        if i == j:
            mends.append(("put", i, kind))
        elif row[j - 1] != kind:
            mends.append(("change", j - 1, kind))
    if m is not None:
        mends = mends + [("out", k) for k in range(m, len(row))]
        price += sum(prices[3].get(("out", kind), prices[1]) for kind in row[m:])
    return mends, made, price


def lists_in(value):
    """Return all lists and dicts in a value, also within tuples, lists and dicts."""
    if isinstance(value, dict):
        return [value] + [one for key in value for one in lists_in(value[key])]
    if isinstance(value, list):
        return [value] + [one for item in value for one in lists_in(item)]
    if isinstance(value, tuple):
        return [one for item in value for one in lists_in(item)]
    return []
