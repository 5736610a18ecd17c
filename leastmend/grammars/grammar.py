"""Kinds, names and rules, and grammars as texts."""

from leastmend.errors import BadLine, TakenRule, TooLarge

MOST_LETTERS = 12
MOST_SYMBOLS = 6
MOST_RULES = 24


def is_kind(text):
    """Tell whether the text is a kind: 1 to 12 capital letters, other than OTHER."""
    return _is_word(text, "A", "Z") and text != "OTHER"


def is_name(text):
    """Tell whether the text is a name: 1 to 12 small letters."""
    return _is_word(text, "a", "z")


def _is_word(text, first, last):
    """Tell whether the text consists of 1 to 12 letters from the first to the last one."""
    return 1 <= len(text) <= MOST_LETTERS and all(first <= letter <= last for letter in text)


def write_grammar(grammar):
    """Return the text of a grammar, one line for each rule."""
    return "".join([_line_of(name, symbols) for name, symbols in grammar])


def _line_of(name, symbols):
    """Return the line of a rule, with its newline."""
    return name + ":" + "".join([" " + symbol for symbol in symbols]) + "\n"


def read_grammar(text):
    """Return the grammar that a text writes.

    Raises BadLine, TakenRule or TooLarge with the number of the first line with a fault.
    """
    lines = text.split("\n")
    unended = lines.pop()
    grammar = []
    for number, line in enumerate(lines):
        grammar.append(_next_rule(grammar, number, line))
    # A line without a newline can only be the last one, so all lines before it are looked at first.
    if unended != "" or not lines:
        raise BadLine(len(lines))
    return grammar


def _next_rule(before, number, line):
    """Return the rule of a line that ends with a newline, or raise its fault."""
    rule = _rule_of(line)
    if rule is None:
        raise BadLine(number)
    if rule in before:
        raise TakenRule(number)
    if number >= MOST_RULES:
        raise TooLarge(number)
    return rule


def _rule_of(line):
    """Return the rule that a line without its newline writes, or None."""
    name, colon, rest = line.partition(":")
    # Each symbol stands behind one space, so nothing stands before the first space.
    parts = rest.split(" ")
    symbols = parts[1:]
    if not is_name(name) or colon == "" or parts[0] != "":
        return None
    if len(symbols) > MOST_SYMBOLS or not all(_is_symbol(symbol) for symbol in symbols):
        return None
    return (name, symbols)


def _is_symbol(text):
    """Tell whether the text is a symbol: a kind or a name."""
    return is_kind(text) or is_name(text)


def names_of(grammar):
    """Return the names that have rules, in the order of their first rules."""
    names = []
    for name, symbols in grammar:
        if name not in names:
            names.append(name)
    return names
