"""Leaves and trees: whether a tuple is one, what it costs, and which of two trees is before the other."""

from leastmend.grammars.grammar import names_of
from leastmend.tables.costs import added
from leastmend.tables.prices import leaf_price


def is_tree(grammar, row, tree):
    """Tell whether a tuple is a leaf or a tree of the grammar over a stretch of the row."""
    nodes = nodes_of(tree)
    return all(_is_node(grammar, row, node) for node in nodes)


def nodes_of(tree):
    """Return the leaf or tree itself and all leaves and trees in it, each one ahead of its parts, from the left."""
    nodes = []
    # Trees may be nested deeper than calls may be, so the parts wait in a list for their turn.
    waiting = [tree]
    while waiting:
        node = waiting.pop()
        nodes.append(node)
        if node[0] == "tree":
            waiting.extend(node[5][::-1])
    return nodes


def leaves_of(tree):
    """Return the leaves of a leaf or tree, from the left."""
    return [node for node in nodes_of(tree) if node[0] == "leaf"]


def stretch_of(node):
    """Return the stretch of a leaf or tree."""
    if node[0] == "leaf":
        return node[2], node[3]
    return node[3], node[4]


def _is_node(grammar, row, node):
    """Tell whether a tuple is a leaf or a tree if all of its parts are."""
    i, j = stretch_of(node)
    if not 0 <= i <= j <= len(row):
        return False
    if node[0] == "leaf":
        return _has_kind(grammar, node[1])
    return _follows_its_rule(grammar, node)


def _has_kind(grammar, kind):
    """Tell whether a text is a kind that stands in a rule."""
    return kind not in names_of(grammar) and any(kind in symbols for name, symbols in grammar)


def _follows_its_rule(grammar, node):
    """Tell whether a tree has a rule of its name, and the parts for it over stretches that follow each other."""
    word, name, rule, i, j, parts = node
    if not 0 <= rule < len(grammar) or grammar[rule][0] != name:
        return False
    names = names_of(grammar)
    wanted = [("tree" if symbol in names else "leaf", symbol) for symbol in grammar[rule][1]]
    if [part[:2] for part in parts] != wanted:
        return False
    starts = [stretch_of(part)[0] for part in parts]
    return [i] + ends_of(parts) == starts + [j]


def ends_of(parts):
    """Return the list of the ends of the parts of a tree."""
    return [stretch_of(part)[1] for part in parts]


def tree_cost(prices, row, tree):
    """Return the price and the size of a leaf or tree."""
    return _costs_of(prices, row, nodes_of(tree))[0]


def _costs_of(prices, row, nodes):
    """Return the costs of leaves and trees that stand in a list as nodes_of gives it."""
    costs = []
    waiting = []
    # From the end on, a tree comes behind its parts: their costs wait for it, that of the first part last.
    for node in nodes[::-1]:
        if node[0] == "leaf":
            cost = (leaf_price(prices, row, node[1], node[2], node[3]), 1)
        else:
            cost = (0, 1)
            for part in node[5]:
                cost = added(cost, waiting.pop())
        waiting.append(cost)
        costs.append(cost)
    return costs[::-1]


def before(prices, row, one, two):
    """Tell whether the first of two trees of one name over one stretch is ordered before the second one."""
    return _order_key(prices, row, one) < _order_key(prices, row, two)


def _order_key(prices, row, tree):
    """Return a list by which trees of one name over one stretch are ordered.

    It says of each tree in the tree all that counts ahead of its parts. As long as two such lists are equal, the
    trees have the same parts over the same stretches, so the first difference is the one that decides.
    """
    nodes = nodes_of(tree)
    costs = _costs_of(prices, row, nodes)
    return [(cost, node[2], ends_of(node[5])) for node, cost in zip(nodes, costs) if node[0] == "tree"]
