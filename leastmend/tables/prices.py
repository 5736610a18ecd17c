"""The prices for putting in, leaving out and exchanging signs."""

from leastmend.grammars.grammar import is_kind

LEAST_PRICE = 1
GREATEST_PRICE = 1000


def is_prices(prices):
    """Tell whether a tuple of three integers and a dict of integers is prices."""
    put, out, change, exceptions = prices
    if not all(_is_price(price) for price in (put, out, change)):
        return False
    return all(_is_key(key) and _is_price(exceptions[key]) for key in exceptions)


def _is_price(price):
    """Tell whether an integer may be a price."""
    return LEAST_PRICE <= price <= GREATEST_PRICE


def _is_key(key):
    """Tell whether a tuple of texts may be the key of an exception."""
    if len(key) == 2 and key[0] == "put":
        return is_kind(key[1])
    if len(key) == 2 and key[0] == "out":
        return _may_be_read(key[1])
    if len(key) == 3 and key[0] == "change":
        return _may_be_read(key[1]) and is_kind(key[2]) and key[1] != key[2]
    return False


def _may_be_read(kind):
    """Tell whether a text is the kind of a sign that a text can have."""
    return is_kind(kind) or kind == "OTHER"


def put_price(prices, kind):
    """Return the price for putting in a sign of the kind."""
    put, out, change, exceptions = prices
    return exceptions.get(("put", kind), put)


def out_price(prices, kind):
    """Return the price for leaving out a sign of the kind."""
    put, out, change, exceptions = prices
    return exceptions.get(("out", kind), out)


def change_price(prices, kind, other_kind):
    """Return the price for exchanging a sign of the kind for one of the other kind; 0 for equal kinds."""
    put, out, change, exceptions = prices
    if kind == other_kind:
        return 0
    return exceptions.get(("change", kind, other_kind), change)


def leaf_price(prices, row, kind, i, j):
    """Return the price of the leaf of a kind over the stretch from i to j of the row."""
    if i == j:
        return put_price(prices, kind)
    left_out = sum([out_price(prices, other) for other in row[i:j - 1]])
    return left_out + change_price(prices, row[j - 1], kind)
