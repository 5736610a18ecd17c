"""What the document promises over the whole program: texts are mended, checked and edited (points 1 to 4, 405, 406, 506, 604)."""

import copy
import random
import unittest

from leastmend.checks.papers import check_mending, is_bound, tight_paper
from leastmend.checks.slacks import slacks
from leastmend.edits.texts import TextSession
from leastmend.grammars.grammar import read_grammar
from leastmend.grammars.sound import check_grammar, shortest_rows
from leastmend.signs.cutting import cut, kinds_of_signs
from leastmend.signs.lexicon import is_lexicon, kinds_of
from leastmend.tables.prices import is_prices
from leastmend.tables.table import table, whole_cost
from leastmend.trees.best import told_mending
from leastmend.trees.mends import make_mends, mended_row, mended_text, mends, mends_price
from leastmend.trees.trees import is_tree, tree_cost

LEXICON = ([("IF", "word", "if"), ("NUMBER", "run", "0123456789"), ("NAME", "run", "abcdefghijklmnopqrstuvwxyz"), ("SET", "word", "="),
            ("PLUS", "word", "+"), ("OPEN", "word", "("), ("CLOSE", "word", ")"), ("END", "word", ";"), ("END", "word", ";;")], " \n")
GRAMMAR = ("lines:\nlines: line END lines\nline: NAME SET sum\nline: IF OPEN sum CLOSE line\n"
           "sum: part\nsum: sum PLUS part\npart: NUMBER\npart: NAME\npart: OPEN sum CLOSE\n")
PRICES = (3, 2, 4, {("out", "OTHER"): 1, ("put", "END"): 1, ("change", "NAME", "IF"): 2, ("change", "OTHER", "SET"): 2, ("put", "IF"): 9})

TEXTS = ["", "a = 1;", "a = 1 + b;\nif (a) b = (1 + c);", "a = ", "a = (1 + ;", "if a b = 1", "= = =", "?", "a ? 1; ? ? b = 2 +; c", "iff (a) b = 1;;",
         ") ) (", "1 2 3", "if (if (1) 2) 3;", "a=1;b=2;c=3;d=;e=5;", "a = 1 + + 2 c = 3", "if (x) if (y) z = ((1);", "\n\n;\n;;", "a b c d e f"]


def derives(grammar, row):
    """Tell whether the start derives the row, by all stretches over which names can stand, until there are no more."""
    names = {name for name, _ in grammar}
    found = set()
    while True:
        many = len(found)
        for name, symbols in grammar:
            for i in range(len(row) + 1):
                ends = {i}
                for symbol in symbols:
                    if symbol in names:
                        ends = {j for k in ends for (other, start, j) in found if other == symbol and start == k}
                    else:
                        ends = {k + 1 for k in ends if k < len(row) and row[k] == symbol}
                found |= {(name, i, j) for j in ends}
        if len(found) == many:
            return (grammar[0][0], 0, len(row)) in found


class Texts(unittest.TestCase):
    def setUp(self):
        self.grammar = read_grammar(GRAMMAR)

    def check(self, text):
        """The text is mended into one that needs no mending, the check takes the mending, and no other price."""
        signs = cut(LEXICON, text)
        row = kinds_of_signs(signs)
        entries = table(self.grammar, PRICES, row)
        price, size, m, tree = told_mending(self.grammar, PRICES, row, entries)
        self.assertEqual((price, size, m), whole_cost(self.grammar, PRICES, row, entries))
        self.assertTrue(is_tree(self.grammar, row, tree))
        found = mends(row, m, tree)
        self.assertEqual(mends_price(PRICES, row, found), price)
        self.assertEqual(price - tree_cost(PRICES, row, tree)[0], mends_price(PRICES, row, [("out", k) for k in range(m, len(row))]))
        self.assertEqual(make_mends(row, found), mended_row(tree))
        self.assertTrue(derives(self.grammar, mended_row(tree)))
        paper = tight_paper(self.grammar, PRICES, row, entries)
        self.assertIs(is_bound(self.grammar, PRICES, row, paper), True)
        self.assertIs(check_mending(self.grammar, PRICES, row, m, tree, paper), True)
        self.assertIs(check_mending(self.grammar, PRICES, row, m, tree, (price + 1, paper[1])), False)
        self.assertEqual(slacks(self.grammar, PRICES, row, entries)[(0, m)][self.grammar[0][0]], 0)
        self.check_mended(mended_text(LEXICON, signs, m, tree), mended_row(tree))
        self.assertEqual(price == 0, derives(self.grammar, row))
        return mended_text(LEXICON, signs, m, tree)

    def check_mended(self, text, wanted):
        """The mended text, cut again, has the mended row and is mended for nothing."""
        signs = cut(LEXICON, text)
        row = kinds_of_signs(signs)
        self.assertEqual(row, wanted)
        price, _, m, tree = told_mending(self.grammar, PRICES, row, table(self.grammar, PRICES, row))
        self.assertEqual((price, m, mends(row, m, tree), mended_row(tree)), (0, len(row), [], row))
        self.assertEqual(mended_text(LEXICON, signs, m, tree), text)

    def test_the_parts_fit(self):
        self.assertTrue(is_lexicon(LEXICON))
        self.assertTrue(is_prices(PRICES))
        self.assertIsNone(check_grammar(self.grammar, kinds_of(LEXICON)))
        self.assertEqual(shortest_rows(self.grammar)["lines"], [])

    def test_texts(self):
        for text in TEXTS:
            self.check(text)

    def test_what_some_texts_are_mended_to(self):
        for text, mended in [("a = 1;", "a = 1 ;"), ("a = 1", "a = 1 ;"), ("a = (1 + ;", "a = 1 ;"), ("a ? 1;", "a = 1 ;"), ("?", ""), ("", ""),
                             ("iff (a) b = 1;;", "if ( a ) b = 1 ;;"), ("if (a b = 1;", "if ( a ) b = 1 ;")]:
            self.assertEqual(self.check(text), mended)

    def test_texts_of_any_characters(self):
        chosen = random.Random(1)
        for _ in range(60):
            text = "".join(chosen.choice(["a", "if", "=", "+", "(", ")", ";", " ", "\n", "7", "?", "b = 1;"]) for _ in range(chosen.randrange(0, 12)))
            self.check(text)

    def test_edits(self):
        """A session tells the same as the program does for the text alone, all along the way."""
        chosen = random.Random(2)
        for text in TEXTS[:12]:
            session = TextSession(LEXICON, self.grammar, PRICES, text)
            for _ in range(4):
                start = chosen.randrange(0, len(text) + 1)
                stop = min(len(text), start + chosen.randrange(0, 5))
                new = chosen.choice(["", "a", " ", "1;", "= (", "if", "??"])
                text = text[:start] + new + text[stop:]
                session.edit(start, stop, new)
                row = kinds_of_signs(cut(LEXICON, text))
                entries = table(self.grammar, PRICES, row)
                self.assertEqual((session.text(), session.signs(), session.table()), (text, cut(LEXICON, text), entries))
                self.assertEqual(session.mending(), told_mending(self.grammar, PRICES, row, entries))
                _, _, m, tree = session.mending()
                paper = tight_paper(self.grammar, PRICES, row, session.table())
                self.assertIs(check_mending(self.grammar, PRICES, row, m, tree, paper), True)

    def test_nothing_is_modified(self):
        kept = copy.deepcopy((LEXICON, self.grammar, PRICES, TEXTS))
        for text in TEXTS[:6]:
            self.check(text)
        self.assertEqual((LEXICON, self.grammar, PRICES, TEXTS), kept)


if __name__ == "__main__":
    unittest.main()
