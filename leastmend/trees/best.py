"""The first trees of names over stretches, and the told mending of a row."""

from leastmend.grammars.grammar import names_of
from leastmend.tables.costs import added
from leastmend.tables.prices import leaf_price
from leastmend.tables.table import whole_cost


def best_tree(grammar, prices, row, name, i, j, entries):
    """Return the first tree of a name over the stretch from i to j, None if there is none."""
    if entries[(i, j)].get(("name", name)) is None:
        return None
    names = names_of(grammar)
    found = []
    # Trees may be nested deeper than calls may be, so each symbol waits with the list that its part belongs to.
    waiting = [(name, i, j, found)]
    while waiting:
        symbol, start, end, beside = waiting.pop()
        if symbol in names:
            rule = _first_rule(grammar, symbol, entries[(start, end)])
            ends = _first_ends(grammar, prices, row, entries, rule, start, end)
            parts = []
            beside.append(("tree", symbol, rule, start, end, parts))
            pieces = list(zip(grammar[rule][1], [start] + ends, ends))
            waiting.extend([(part, k, m, parts) for part, k, m in pieces[::-1]])
        else:
            beside.append(("leaf", symbol, start, end))
    return found[0]


def _first_rule(grammar, name, found):
    """Return the least number of a rule that has a tree with the cost of the name, from the entries of a stretch."""
    rules = [rule for rule, (owner, symbols) in enumerate(grammar) if owner == name]
    return min([rule for rule in rules if added(found[("rest", rule, 0)], (0, 1)) == found[("name", name)]])


def _first_ends(grammar, prices, row, entries, rule, i, j):
    """Return the first list of the ends of parts over which a rule has its least cost for the stretch."""
    ends = []
    start = i
    for dot, symbol in enumerate(grammar[rule][1]):
        wanted = entries[(start, j)][("rest", rule, dot)]
        end = start
        while _split_cost(grammar, prices, row, entries, rule, dot, (start, end, j)) != wanted:
            end += 1
        ends.append(end)
        start = end
    return ends


def _split_cost(grammar, prices, row, entries, rule, dot, split):
    """Return the least cost of a rest whose first symbol ends at the middle one of the three indexes."""
    i, k, j = split
    symbol = grammar[rule][1][dot]
    return added(_symbol_cost(grammar, prices, row, entries, symbol, i, k), entries[(k, j)][("rest", rule, dot + 1)])


def _symbol_cost(grammar, prices, row, entries, symbol, i, j):
    """Return the least cost of a leaf or a tree for a symbol over a stretch, None if there is none."""
    if symbol in names_of(grammar):
        return entries[(i, j)][("name", symbol)]
    return leaf_price(prices, row, symbol, i, j), 1


def told_mending(grammar, prices, row, entries):
    """Return the price, the size, the m and the tree of the told mending of the row."""
    price, size, m = whole_cost(grammar, prices, row, entries)
    return price, size, m, best_tree(grammar, prices, row, grammar[0][0], 0, m, entries)
