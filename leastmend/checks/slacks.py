"""Outer prices of names and stretches, and by how much the mendings with such trees are dearer than the told one."""

from leastmend.checks.sums import least_sum, prices_of_table, sum_of, symbol_numbers
from leastmend.grammars.grammar import names_of
from leastmend.tables.costs import least
from leastmend.tables.leaves import prices_behind, shorter_first
from leastmend.tables.table import whole_cost


def outer_prices(grammar, prices, row, entries):
    """Return a dict from each stretch to a dict from each name to its outer price."""
    bounds = prices_of_table(entries)
    around = _prices_around(grammar, prices, row, bounds)
    names = names_of(grammar)
    return {stretch: _outer_of(names, around[stretch], bounds[stretch]) for stretch in around}


def _outer_of(names, around, inner):
    """Return the outer prices of the names over a stretch, from the least prices around them and within them."""
    # Where a name has no tree, no mending contains one, though there may be a place for it.
    return {name: None if inner[("name", name)] is None else around[("name", name)] for name in names}


def slacks(grammar, prices, row, entries):
    """Return a dict from each stretch to a dict from each name to its slack."""
    bounds = prices_of_table(entries)
    whole, size, m = whole_cost(grammar, prices, row, entries)
    outer = outer_prices(grammar, prices, row, entries)
    return {stretch: _slacks_of(outer[stretch], bounds[stretch], whole) for stretch in outer}


def _slacks_of(outer, inner, whole):
    """Return the slacks of the names over a stretch, from their outer prices, their own ones and the least of all."""
    return {name: sum_of(sum_of(outer[name], inner[("name", name)]), -whole) for name in outer}


def _prices_around(grammar, prices, row, bounds):
    """Return a dict from each stretch to the least prices of all else in a whole mending around a name or a rest.

    The keys are those of entries. Around a rest are the symbols before it and all that is around the tree of its rule.
    """
    numbers = symbol_numbers(grammar, prices, row, bounds)
    behind = prices_behind(prices, row)
    start = ("name", grammar[0][0])
    around = {}
    for i, j in shorter_first(len(row))[::-1]:
        names = _names_in_longer(grammar, around, bounds, (i, j, len(row)))
        if i == 0:
            names[start] = least([names[start], behind[j]])
        rests = _rests_in_longer(grammar, around, numbers, i, j)
        around[(i, j)] = _all_around(grammar, names, rests, numbers[(i, i)], bounds[(j, j)])
    return around


def _names_in_longer(grammar, around, bounds, places):
    """Return the least prices around the names over a stretch, as the first symbols of longer rests.

    The places are the two of the stretch and the end of the row.
    """
    i, j, end = places
    heads = [around[(i, k)] for k in range(j + 1, end + 1)]
    tails = [bounds[(j, k)] for k in range(j + 1, end + 1)]
    found = {("name", name): None for name in names_of(grammar)}
    for rule, (name, symbols) in enumerate(grammar):
        for dot, symbol in enumerate(symbols):
            key = ("name", symbol)
            if key in found:
                price = least_sum(heads, ("rest", rule, dot), tails, ("rest", rule, dot + 1))
                found[key] = least([found[key], price])
    return found


def _rests_in_longer(grammar, around, numbers, i, j):
    """Return the least prices around the rests over a stretch, as all but the first symbol of longer rests."""
    heads = [around[(k, j)] for k in range(i)]
    tails = [numbers[(k, i)] for k in range(i)]
    found = {}
    for rule, (name, symbols) in enumerate(grammar):
        for dot, symbol in enumerate(symbols):
            found[("rest", rule, dot + 1)] = least_sum(heads, ("rest", rule, dot), tails, symbol)
    return found


def _all_around(grammar, names, rests, ahead, behind):
    """Return the least prices around all names and rests over a stretch, from those as parts of longer rests.

    Beside them in rests over the same stretch are symbols over nothing: a symbol ahead of them, or a rest behind them.
    """
    found = {key: names[key] for key in names}
    for key in rests:
        found[key] = rests[key]
    waiting = list(range(len(grammar)))
    # This ends: nothing is less than what is in it, so a name does not fall by what is around itself.
    while waiting:
        rule = waiting.pop(0)
        name, symbols = grammar[rule]
        found[("rest", rule, 0)] = found[("name", name)]
        for dot, symbol in enumerate(symbols):
            price = found[("rest", rule, dot)]
            rest = ("rest", rule, dot + 1)
            found[rest] = least([found[rest], sum_of(price, ahead[symbol])])
            if ("name", symbol) in found:
                least_price = least([found[("name", symbol)], sum_of(price, behind[rest])])
                if least_price != found[("name", symbol)]:
                    found[("name", symbol)] = least_price
                    waiting.extend([user for user in _rules_of(grammar, symbol) if user not in waiting])
    return found


def _rules_of(grammar, name):
    """Return the numbers of the rules of a name."""
    return [rule for rule, (owner, symbols) in enumerate(grammar) if owner == name]
