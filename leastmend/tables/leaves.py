"""The stretches of a row, and what leaves over them cost."""

from leastmend.grammars.grammar import names_of
from leastmend.tables.prices import leaf_price, out_price


def shorter_first(many):
    """Return the stretches of a row of so many signs, shorter ones before longer ones."""
    return [(i, i + length) for length in range(many + 1) for i in range(many - length + 1)]


def leaf_costs(grammar, prices, row):
    """Return a dict from each stretch to a dict from each kind of the grammar to the cost of its leaf."""
    names = names_of(grammar)
    kinds = sorted({symbol for name, symbols in grammar for symbol in symbols if symbol not in names})
    costs = {}
    for i, j in shorter_first(len(row)):
        if j - i < 2:
            costs[(i, j)] = {kind: (leaf_price(prices, row, kind, i, j), 1) for kind in kinds}
        else:
            # A leaf over several signs leaves out the first one, and the rest of it is a leaf, too.
            out = out_price(prices, row[i])
            costs[(i, j)] = {kind: (out + costs[(i + 1, j)][kind][0], 1) for kind in kinds}
    return costs


def prices_behind(prices, row):
    """Return the prices for leaving out the signs from m on, for each m from 0 to the number of signs."""
    return [sum([out_price(prices, kind) for kind in row[m:]]) for m in range(len(row) + 1)]
