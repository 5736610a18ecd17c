"""Text sessions: texts under edits, with their signs and the tables of these."""

from leastmend.edits.copies import copy_of_grammar, copy_of_lexicon, copy_of_prices
from leastmend.edits.session import Session
from leastmend.errors import OutOfRange, TooLong
from leastmend.signs.cutting import cut, difference, kinds_of_signs

LONGEST_TEXT = 400


class TextSession:
    """A text with its signs and the table of their kinds. An edit replaces only the signs that become other ones."""

    def __init__(self, lexicon, grammar, prices, text):
        """Begin with a text. Raises TooManySigns(0) if it has more than 60 signs."""
        self._lexicon = copy_of_lexicon(lexicon)
        self._grammar = copy_of_grammar(grammar)
        self._prices = copy_of_prices(prices)
        self._text = text
        self._signs = cut(lexicon, text)
        self._session = Session(grammar, prices, kinds_of_signs(self._signs))
        self._replaced = (0, 0, len(self._signs))

    def edit(self, start, stop, text):
        """Put a text in the place of the characters from start to stop - 1.

        Raises OutOfRange(0) if these are not indexes of the text in order, TooLong(0) if the new text would have more
        than 400 characters, and TooManySigns(0) if it would have more than 60 signs.
        """
        if not 0 <= start <= stop <= len(self._text):
            raise OutOfRange(0)
        edited = self._text[:start] + text + self._text[stop:]
        if len(edited) > LONGEST_TEXT:
            raise TooLong(0)
        signs = cut(self._lexicon, edited)
        a, b, c = difference(self._signs, signs)
        # This raises TooManySigns(0), so it comes before all else that changes something.
        self._session.replace(a, b, kinds_of_signs(signs[a:c]))
        self._text = edited
        self._signs = signs
        self._replaced = (a, b, c)

    def text(self):
        """Return the text."""
        return self._text

    def signs(self):
        """Return the signs of the text, with their places in it."""
        return list(self._signs)

    def replaced(self):
        """Return the difference of the last edit; (0, 0, n) for n signs if there was none."""
        return self._replaced

    def made(self):
        """Return the stretches whose entries the last edit made anew; all of them if there was none."""
        return self._session.made()

    def table(self):
        """Return the table of the kinds of the signs."""
        return self._session.table()

    def mending(self):
        """Return the price, the size, the m and the tree of the told mending of the kinds of the signs."""
        return self._session.mending()

    def copy(self):
        """Return a text session in the same state that goes on by itself."""
        # The copy begins with the empty text, whose table is made at once; that of its own text is there already.
        other = TextSession(self._lexicon, self._grammar, self._prices, "")
        other._text = self._text
        other._signs = list(self._signs)
        other._session = self._session.copy()
        other._replaced = self._replaced
        return other
