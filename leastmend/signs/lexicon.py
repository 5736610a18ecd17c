"""Lexicons: the patterns of the signs, and the characters that are passed over."""

from leastmend.errors import BadKinds
from leastmend.grammars.grammar import is_kind

MOST_PATTERNS = 20
LONGEST_WORD = 12
LONGEST_RUN = 95
# The percent sign is given by its number, as no string of the program contains it.
PERCENT = 37


def is_lexicon(lexicon):
    """Tell whether a tuple of a list of patterns and a text of passed characters is a lexicon."""
    patterns, passed = lexicon
    if len(patterns) > MOST_PATTERNS or not _are_different_characters(passed):
        return False
    return all(_is_pattern(kind, form, text) for kind, form, text in patterns)


def _is_pattern(kind, form, text):
    """Tell whether the three texts are a pattern."""
    if not is_kind(kind):
        return False
    if form == "word":
        return 1 <= len(text) <= LONGEST_WORD and _are_characters(text)
    return form == "run" and 1 <= len(text) <= LONGEST_RUN and _are_different_characters(text)


def _are_different_characters(text):
    """Tell whether a text consists of characters of texts, none of them twice."""
    return _are_characters(text) and len(set(text)) == len(text)


def _are_characters(text):
    """Tell whether a text consists of characters of texts only."""
    return all(_is_character(character) for character in text)


def _is_character(character):
    """Tell whether a character may stand in a text."""
    return character == "\n" or (" " <= character <= "~" and ord(character) != PERCENT)


def kinds_of(lexicon):
    """Return the kinds of the patterns of a lexicon, ascending, each one once.

    Raises BadKinds(0) if the tuple is not a lexicon.
    """
    if not is_lexicon(lexicon):
        raise BadKinds(0)
    return sorted({kind for kind, form, text in lexicon[0]})
