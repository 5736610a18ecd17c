"""The mends of a whole mending, the row that they lead to, and the mended text."""

from leastmend.errors import BadMend
from leastmend.signs.cutting import kinds_of_signs
from leastmend.tables.prices import change_price, out_price, put_price
from leastmend.trees.trees import leaves_of


def mends(row, m, tree):
    """Return the mends of the whole mending with the tree over the signs from 0 to m, from the left."""
    found = []
    for leaf in leaves_of(tree):
        found.extend(_mends_of_leaf(row, leaf))
    return found + [("out", k) for k in range(m, len(row))]


def _mends_of_leaf(row, leaf):
    """Return the mends of a leaf: the signs that are left out, then the one that is put in or exchanged."""
    word, kind, i, j = leaf
    if i == j:
        return [("put", i, kind)]
    left_out = [("out", k) for k in range(i, j - 1)]
    if _is_kept(row, leaf):
        return left_out
    return left_out + [("change", j - 1, kind)]


def _is_kept(row, leaf):
    """Tell whether a leaf keeps the last sign of its stretch."""
    word, kind, i, j = leaf
    return i < j and row[j - 1] == kind


def mends_price(prices, row, found):
    """Return the sum of the prices of a list of mends."""
    return sum([_mend_price(prices, row, mend) for mend in found])


def _mend_price(prices, row, mend):
    """Return the price of a mend."""
    if mend[0] == "out":
        return out_price(prices, row[mend[1]])
    if mend[0] == "put":
        return put_price(prices, mend[2])
    return change_price(prices, row[mend[1]], mend[2])


def mended_row(tree):
    """Return the list of the kinds of the leaves."""
    return [kind for word, kind, i, j in leaves_of(tree)]


def make_mends(row, found):
    """Return the row after the mends, whose indexes are all those of the row as it is passed in.

    Raises BadMend(k) for the first mend, at the place k in the list, whose index is not in range, or is one of a sign
    that the mends before it are done with.
    """
    made = []
    # The signs before this index are done with. One that something is put in before is not, so more may follow there.
    done = 0
    for place, mend in enumerate(found):
        index = mend[1]
        if not done <= index <= _last_index(row, mend):
            raise BadMend(place)
        made.extend(row[done:index])
        done = index
        if mend[0] != "put":
            done += 1
        if mend[0] != "out":
            made.append(mend[2])
    return made + row[done:]


def _last_index(row, mend):
    """Return the greatest index that a mend of this form may have."""
    if mend[0] == "put":
        return len(row)
    return len(row) - 1


def mended_text(lexicon, signs, m, tree):
    """Return the text of a whole mending: the texts of the signs behind it, with one space between them."""
    row = kinds_of_signs(signs)
    texts = []
    for leaf in leaves_of(tree):
        word, kind, i, j = leaf
        if _is_kept(row, leaf):
            texts.append(signs[j - 1][1])
        else:
            texts.append(_told_text(lexicon, kind))
    return " ".join(texts)


def _told_text(lexicon, kind):
    """Return the text that is written for a sign of a kind where no sign of a text is kept."""
    patterns, passed = lexicon
    first = [pattern for pattern in patterns if pattern[0] == kind][0]
    if first[1] == "word":
        return first[2]
    return min(first[2])
