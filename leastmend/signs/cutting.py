"""Texts that are cut into signs, and the difference of two lists of signs."""


def match_at(pattern, text, index):
    """Return the length of the match of a pattern at an index of a text, 0 if it does not match."""
    kind, form, wanted = pattern
    if form == "word":
        return _word_length(wanted, text, index)
    return _run_length(wanted, text, index)


def _word_length(word, text, index):
    """Return the length of a word if it stands at the index, otherwise 0."""
    if text.startswith(word, index):
        return len(word)
    return 0


def _run_length(characters, text, index):
    """Return how many of the characters stand at the index, one behind the other."""
    end = index
    while end < len(text) and text[end] in characters:
        end += 1
    return end - index


def cut(lexicon, text):
    """Return the signs of a text, each one as a tuple of its kind, its text and its start."""
    patterns, passed = lexicon
    signs = []
    index = 0
    while index < len(text):
        if text[index] in passed:
            index += 1
        else:
            kind, length = _sign_at(patterns, text, index)
            signs.append((kind, text[index:index + length], index))
            index += length
    return signs


def _sign_at(patterns, text, index):
    """Return the kind and the length of the sign at an index of a character that is not passed over."""
    found = "OTHER"
    longest = 0
    for pattern in patterns:
        length = match_at(pattern, text, index)
        # Of several longest matches the first one counts, so one of the same length changes nothing.
        if length > longest:
            found = pattern[0]
            longest = length
    return found, max(longest, 1)


def kinds_of_signs(signs):
    """Return the kinds of the signs, in their order."""
    return [kind for kind, text, start in signs]


def difference(old, new):
    """Return the tuple (a, b, c): the signs from a to c - 1 of the new list replace those from a to b - 1."""
    before = _without_starts(old)
    after = _without_starts(new)
    a = _many_alike(before, after)
    # The end takes none of the first a signs, so they are cut off before the ends are compared.
    many = _many_alike(before[a:][::-1], after[a:][::-1])
    return a, len(old) - many, len(new) - many


def _without_starts(signs):
    """Return the kinds and the texts of the signs."""
    return [(kind, text) for kind, text, start in signs]


def _many_alike(one, two):
    """Return the number of items with which both lists begin alike."""
    many = 0
    while many < len(one) and many < len(two) and one[many] == two[many]:
        many += 1
    return many
