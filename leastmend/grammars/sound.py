"""What the names of a grammar derive and reach, and whether a grammar is sound."""

from leastmend.errors import NoRow, NotReached, UnknownSymbol
from leastmend.grammars.grammar import names_of

LONGEST_ROW = 60


def check_grammar(grammar, kinds):
    """Return None if the grammar is sound for the kinds, otherwise raise the first fault.

    Raises UnknownSymbol, NoRow or NotReached with the number of the rule.
    """
    _check_symbols(grammar, list(kinds) + names_of(grammar))
    # Not the names of shortest_rows: it leaves out names that derive long rows only.
    deriving = _deriving_names(grammar)
    for number, (name, symbols) in enumerate(grammar):
        if name not in deriving:
            raise NoRow(number)
    reached = reached_names(grammar)
    for number, (name, symbols) in enumerate(grammar):
        if name not in reached:
            raise NotReached(number)


def _check_symbols(grammar, known):
    """Raise UnknownSymbol for the first rule with a symbol that is not known."""
    for number, (name, symbols) in enumerate(grammar):
        if not all(symbol in known for symbol in symbols):
            raise UnknownSymbol(number)


def _deriving_names(grammar):
    """Return the names that derive a row, however long it is."""
    deriving = []
    grown = True
    while grown:
        grown = False
        for name, symbols in grammar:
            if name not in deriving and all(_stands_alone(word) or word in deriving for word in symbols):
                deriving.append(name)
                grown = True
    return deriving


def _stands_alone(symbol):
    """Tell whether a symbol is a kind."""
    # A symbol is a kind or a name, so its letters alone tell which, also in words of more than 12.
    return symbol.isupper()


def shortest_rows(grammar):
    """Return a dict from each name to its shortest row, if it has one of at most 60 kinds."""
    rows = {}
    fallen = True
    while fallen:
        fallen = False
        for name, symbols in grammar:
            row = _joined_row(symbols, rows)
            if row is not None and (name not in rows or _is_shorter(row, rows[name])):
                rows[name] = row
                fallen = True
    # Names are found in an order that tells nothing, so they are shown in that of their rules.
    return {name: rows[name] for name in names_of(grammar) if name in rows}


def _joined_row(symbols, rows):
    """Return the row of the symbols, each name standing for its row; None without one of at most 60 kinds."""
    joined = []
    for symbol in symbols:
        if _stands_alone(symbol):
            joined.append(symbol)
        elif symbol in rows:
            joined.extend(rows[symbol])
        else:
            return None
    # A name with a longer row is in no row of at most 60 kinds, and longer rows can grow without measure.
    if len(joined) > LONGEST_ROW:
        return None
    return joined


def _is_shorter(one, two):
    """Tell whether the first row has fewer kinds, or as many and is the first one in the order of lists."""
    return (len(one), one) < (len(two), two)


def reached_names(grammar):
    """Return the names that are reached, ascending; among them names without a rule."""
    start = grammar[0][0]
    reached = [start]
    waiting = [start]
    while waiting:
        name = waiting.pop()
        for symbol in _symbols_of(grammar, name):
            if not _stands_alone(symbol) and symbol not in reached:
                reached.append(symbol)
                waiting.append(symbol)
    return sorted(reached)


def _symbols_of(grammar, name):
    """Return the symbols of all rules of a name."""
    return [symbol for owner, symbols in grammar if owner == name for symbol in symbols]
