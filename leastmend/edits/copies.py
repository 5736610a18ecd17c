"""Copies of what sessions are given and give back, so that a change to one has no effect on the other."""


def copy_of_grammar(grammar):
    """Return a copy of a grammar."""
    return [(name, list(symbols)) for name, symbols in grammar]


def copy_of_prices(prices):
    """Return a copy of prices."""
    put, out, change, exceptions = prices
    return put, out, change, {key: exceptions[key] for key in exceptions}


def copy_of_lexicon(lexicon):
    """Return a copy of a lexicon."""
    patterns, passed = lexicon
    return list(patterns), passed


def copy_of_table(entries):
    """Return a copy of a table."""
    return {stretch: _copy_of_entries(entries[stretch]) for stretch in entries}


def _copy_of_entries(found):
    """Return a copy of the entries of a stretch."""
    return {key: found[key] for key in found}
