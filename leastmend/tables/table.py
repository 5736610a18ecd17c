"""The table of a row: the least costs of all names and rests over all stretches."""

from leastmend.grammars.grammar import names_of
from leastmend.tables.costs import added, least
from leastmend.tables.leaves import leaf_costs, shorter_first
from leastmend.tables.prices import out_price


def table(grammar, prices, row):
    """Return the table of a row: a dict from each stretch to the dict of its entries."""
    return filled(grammar, prices, row, {})


def filled(grammar, prices, row, known):
    """Return the table of a row of which some stretches are known; these are taken as they are."""
    leaves = leaf_costs(grammar, prices, row)
    # The costs of all symbols, for stretches whose entries are there: those of kinds and of names in one dict.
    costs = {}
    entries = {}
    for i, j in shorter_first(len(row)):
        if (i, j) in known:
            found = {key: known[(i, j)][key] for key in known[(i, j)]}
        else:
            pieces = _pieces(grammar, costs, entries, i, j)
            found = _made_entries(grammar, leaves[(i, j)], pieces)
        entries[(i, j)] = found
        names = {name: found.get(("name", name)) for name in names_of(grammar)}
        costs[(i, j)] = {**leaves[(i, j)], **names}
    return entries


def _pieces(grammar, costs, entries, i, j):
    """Return for each rule the pieces of its rests over the stretch, for all dots but the last one.

    Over an empty stretch there is nothing shorter to make them of: each rule has None instead.
    """
    if i == j:
        return [None for rule in grammar]
    heads = [costs[(i, k)] for k in range(i, j)]
    tails = [entries[(k, j)] for k in range(i + 1, j + 1)]
    return [
        [_piece(heads, tails, symbol, ("rest", rule, dot + 1)) for dot, symbol in enumerate(symbols)]
        for rule, (name, symbols) in enumerate(grammar)
    ]


def _piece(heads, tails, symbol, rest):
    """Return what a rest is made of, as far as it is known from shorter stretches than its own.

    This is the least cost where both the symbol and the next rest are over shorter ones; the cost of the symbol
    over nothing, for the next rest over all; and the cost of the next rest over nothing, for the symbol over all.
    """
    return _least_split(heads[1:], tails[:-1], symbol, rest), heads[0][symbol], tails[-1].get(rest)


def _least_split(heads, tails, symbol, rest):
    """Return the least sum of the cost of the symbol in one of the heads and that of the rest in the tail beside it."""
    best = None
    # Most of the time goes by in this loop, so costs are added and compared here without a call.
    for head, tail in zip(heads, tails):
        one = head[symbol]
        two = tail.get(rest)
        if one is not None and two is not None:
            cost = (one[0] + two[0], one[1] + two[1])
            if best is None or cost < best:
                best = cost
    return best


def _made_entries(grammar, leaves, pieces):
    """Return the entries of a stretch, from the costs of the leaves over it and the pieces of all rules."""
    names = {name: None for name in names_of(grammar)}
    over = {**leaves, **names}
    rests = [[] for rule in grammar]
    # A grammar mostly has the rules of a name behind those that use it, so the last rule is made first.
    waiting = list(range(len(grammar)))[::-1]
    # This ends: no least tree contains another one of its name over the stretch, so names fall only so often.
    while waiting:
        rule = waiting.pop(0)
        name, symbols = grammar[rule]
        rests[rule] = _rests_of(symbols, over, pieces[rule])
        # A tree adds one to the size of its parts, and nothing to their price.
        cost = least([over[name], added(rests[rule][0], (0, 1))])
        if cost != over[name]:
            over[name] = cost
            for user in _users_of(grammar, name):
                if user not in waiting:
                    waiting.append(user)
    return _entries_from(grammar, over, rests)


def _users_of(grammar, name):
    """Return the numbers of the rules with the name among their symbols."""
    return [rule for rule, (owner, symbols) in enumerate(grammar) if name in symbols]


def _entries_from(grammar, over, rests):
    """Return the entries of a stretch, from the costs of the names and of the rests of all rules."""
    entries = {("name", name): over[name] for name in names_of(grammar)}
    for rule, found in enumerate(rests):
        for dot, cost in enumerate(found):
            entries[("rest", rule, dot)] = cost
    return entries


def _rests_of(symbols, over, pieces):
    """Return the costs of the rests of a rule for all dots, from the costs of all symbols over the stretch."""
    if pieces is None:
        return _rests_over_nothing(symbols, over)
    rests = [None]
    for symbol, (inner, ahead, behind) in list(zip(symbols, pieces))[::-1]:
        rests.append(least([inner, added(ahead, rests[-1]), added(over[symbol], behind)]))
    return rests[::-1]


def _rests_over_nothing(symbols, over):
    """Return the costs of the rests of a rule for all dots, where each symbol stands over nothing, too."""
    rests = [(0, 0)]
    for symbol in symbols[::-1]:
        rests.append(added(over[symbol], rests[-1]))
    return rests[::-1]


def whole_cost(grammar, prices, row, entries):
    """Return the price, the size and the m of the whole mending with the least price, then size, then m."""
    start = ("name", grammar[0][0])
    found = []
    left_out = 0
    for m in range(len(row), -1, -1):
        if entries[(0, m)][start] is not None:
            price, size = entries[(0, m)][start]
            found.append((price + left_out, size, m))
        if m > 0:
            left_out += out_price(prices, row[m - 1])
    return min(found)
