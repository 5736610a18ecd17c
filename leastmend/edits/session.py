"""Sessions: rows under replacements, with their tables."""

from leastmend.edits.copies import copy_of_grammar, copy_of_prices, copy_of_table
from leastmend.errors import OutOfRange, TooManySigns
from leastmend.tables.leaves import shorter_first
from leastmend.tables.table import filled
from leastmend.trees.best import told_mending

MOST_SIGNS = 60


class Session:
    """A row with its table. Of the table, a replacement makes only the entries of the touched stretches anew."""

    def __init__(self, grammar, prices, row):
        """Begin with a row. Raises TooManySigns(0) if it has more than 60 kinds."""
        if len(row) > MOST_SIGNS:
            raise TooManySigns(0)
        self._grammar = copy_of_grammar(grammar)
        self._prices = copy_of_prices(prices)
        self._row = list(row)
        self._entries = filled(self._grammar, self._prices, self._row, {})
        self._made = sorted(shorter_first(len(row)))

    def replace(self, start, stop, new):
        """Put the kinds of a list in the place of those from start to stop - 1.

        Raises OutOfRange(0) if these are not indexes of the row in order, and TooManySigns(0) if the row would have
        more than 60 kinds.
        """
        if not 0 <= start <= stop <= len(self._row):
            raise OutOfRange(0)
        row = self._row[:start] + new + self._row[stop:]
        if len(row) > MOST_SIGNS:
            raise TooManySigns(0)
        stretches = shorter_first(len(row))
        end = start + len(new)
        known = {}
        for i, j in stretches:
            if j <= start:
                known[(i, j)] = self._entries[(i, j)]
            elif i >= end:
                known[(i, j)] = self._entries[(i - end + stop, j - end + stop)]
        self._entries = filled(self._grammar, self._prices, row, known)
        self._row = row
        self._made = [stretch for stretch in sorted(stretches) if stretch not in known]

    def made(self):
        """Return the stretches whose entries the last replacement made anew; all of them if there was none."""
        return list(self._made)

    def row(self):
        """Return the row."""
        return list(self._row)

    def table(self):
        """Return the table of the row."""
        return copy_of_table(self._entries)

    def mending(self):
        """Return the price, the size, the m and the tree of the told mending of the row."""
        return told_mending(self._grammar, self._prices, self._row, self._entries)

    def copy(self):
        """Return a session in the same state that goes on by itself."""
        # The copy begins with the empty row, whose table is made at once; that of its own row is there already.
        other = Session(self._grammar, self._prices, [])
        other._row = list(self._row)
        other._entries = copy_of_table(self._entries)
        other._made = list(self._made)
        return other
