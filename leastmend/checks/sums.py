"""Numbers of names, rests and symbols over stretches. They may be None, which is greater than every integer."""

from leastmend.grammars.grammar import names_of
from leastmend.tables.leaves import leaf_costs


def at_most(one, two):
    """Tell whether the first number is at most the second one."""
    return two is None or (one is not None and one <= two)


def sum_of(one, two):
    """Return the sum of two numbers; None if one of them is None."""
    if one is None or two is None:
        return None
    return one + two


def least_sum(heads, head, tails, tail):
    """Return the least sum of the number of one key in a dict and that of another key in the dict beside it.

    None is the sum if one of them is None, and if there are no dicts.
    """
    best = None
    # Most of the time goes by in this loop, so numbers are added and compared here without a call.
    for some, others in zip(heads, tails):
        one = some[head]
        two = others[tail]
        if one is not None and two is not None and (best is None or one + two < best):
            best = one + two
    return best


def prices_of_table(entries):
    """Return a table without the sizes of its entries."""
    return {stretch: _prices_of(entries[stretch]) for stretch in entries}


def _prices_of(found):
    """Return the entries of a stretch without their sizes."""
    return {key: None if found[key] is None else found[key][0] for key in found}


def symbol_numbers(grammar, prices, row, bounds):
    """Return a dict from each stretch to a dict from each symbol of the grammar to its number over the stretch."""
    leaves = leaf_costs(grammar, prices, row)
    names = names_of(grammar)
    numbers = {}
    for stretch in leaves:
        kinds = {kind: leaves[stretch][kind][0] for kind in leaves[stretch]}
        others = {name: bounds[stretch][("name", name)] for name in names}
        numbers[stretch] = {**kinds, **others}
    return numbers
