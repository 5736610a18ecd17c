"""Points 2, 4, 603 and 604, and leastmend/edits/texts.py."""

import copy
import inspect
import random
import unittest

from leastmend.edits import texts as module
from leastmend.edits.texts import TextSession
from leastmend.errors import MendError, OutOfRange, TooLong, TooManySigns
from leastmend.signs.cutting import cut, difference, kinds_of_signs
from leastmend.tables.table import table
from leastmend.trees.best import told_mending
from test_table import PLAIN, stretches_of
from told import lists_in

LEXICON = ([("NUMBER", "run", "0123456789"), ("PLUS", "word", "+"), ("PLUS", "word", "plus"), ("OPEN", "word", "("), ("CLOSE", "word", ")")], " \n")
SUMS = [("sum", ["part"]), ("sum", ["sum", "PLUS", "part"]), ("part", ["NUMBER"]), ("part", ["OPEN", "sum", "CLOSE"])]

METHODS = [("__init__", ["self", "lexicon", "grammar", "prices", "text"]), ("edit", ["self", "start", "stop", "text"]), ("text", ["self"]),
           ("signs", ["self"]), ("made", ["self"]), ("table", ["self"]), ("mending", ["self"]), ("copy", ["self"]), ("replaced", ["self"])]


class TheInterface(unittest.TestCase):
    def test_the_class_and_its_methods(self):
        self.assertEqual(TextSession.__module__, "leastmend.edits.texts")
        for name, arguments in METHODS:
            method = vars(TextSession)[name]
            self.assertEqual(list(inspect.signature(method).parameters), arguments)


def state(session):
    """Return all that a text session tells."""
    return (session.text(), session.signs(), session.replaced(), session.made(), session.table(), session.mending())


def begun(text):
    """Return a text session of sums."""
    return TextSession(LEXICON, SUMS, PLAIN, text)


def touched(many, a, c):
    """Return the stretches of so many signs of which those from a to c - 1 are new, that are touched."""
    return [(i, j) for i, j in stretches_of("a" * many) if i < c and j > a]


class Tests(unittest.TestCase):
    def check(self, session, text, replaced, made=None):
        """The session has this text, its signs, table and mending, and this difference with what it made anew."""
        signs = cut(LEXICON, text)
        row = kinds_of_signs(signs)
        entries = table(SUMS, PLAIN, row)
        self.assertEqual(session.text(), text)
        self.assertEqual(session.signs(), signs)
        self.assertEqual(session.replaced(), replaced)
        self.assertIs(session.replaced().__class__, tuple)
        self.assertEqual(session.made(), touched(len(signs), replaced[0], replaced[2]) if made is None else made)
        self.assertEqual(session.table(), entries)
        self.assertEqual(session.mending(), told_mending(SUMS, PLAIN, row, entries))


class ANewSession(Tests):
    def test_ordinary(self):
        for text in ["1", "1 + 22", "1 plus\n(3 + ?", "  \n ", "???", ") + 1"]:
            many = len(cut(LEXICON, text))
            self.check(begun(text), text, (0, 0, many), stretches_of("a" * many))

    def test_nothing(self):
        self.check(begun(""), "", (0, 0, 0), [(0, 0)])

    def test_the_signs(self):
        self.assertEqual(begun("12 +?").signs(), [("NUMBER", "12", 0), ("PLUS", "+", 3), ("OTHER", "?", 4)])

    def test_60_and_61_signs(self):
        self.assertEqual(len(begun("1+" * 30).signs()), 60)
        for text in ["1+" * 30 + "1", "+" * 61, "?" * 100]:
            with self.assertRaises(TooManySigns) as caught:
                begun(text)
            self.assertEqual(caught.exception.at, 0)
            self.assertIsInstance(caught.exception, MendError)

    def test_a_long_text(self):
        text = "1" * 399 + "+"
        self.check(begun(text), text, (0, 0, 2), stretches_of("ab"))
        # A new session has no limit but that of the signs.
        self.check(begun(text + " "), text + " ", (0, 0, 2), stretches_of("ab"))


class Edit(Tests):
    def edited(self, before, start, stop, text, after, replaced):
        """Make an edit in a new session, test what is behind it, and return the session."""
        session = begun(before)
        self.assertIsNone(session.edit(start, stop, text))
        self.check(session, after, replaced)
        return session

    def test_characters_that_are_put_in(self):
        self.edited("1 + 2", 5, 5, " + 3", "1 + 2 + 3", (3, 3, 5))
        self.edited("1 + 2", 0, 0, "(", "(1 + 2", (0, 0, 1))
        self.edited("1 + 2", 2, 2, ") ", "1 ) + 2", (1, 1, 2))
        self.edited("", 0, 0, "1 +", "1 +", (0, 0, 2))

    def test_characters_that_are_taken_out(self):
        self.edited("1 + 2", 2, 4, "", "1 2", (1, 2, 1))
        self.edited("1 + 2", 0, 5, "", "", (0, 3, 0))
        self.edited("(1)", 0, 1, "", "1)", (0, 1, 0))
        self.edited("(1)", 2, 3, "", "(1", (2, 3, 2))

    def test_characters_that_are_exchanged(self):
        self.edited("1 + 2", 0, 1, "?", "? + 2", (0, 1, 1))
        self.edited("1 + 2", 4, 5, "((", "1 + ((", (2, 3, 4))
        self.edited("1 + 2", 0, 5, ") ) )", ") ) )", (0, 3, 3))

    def test_a_sign_of_the_same_kind_with_another_text(self):
        # The row stays as it was, and still its kind is replaced.
        self.edited("1 + 2", 0, 1, "99", "99 + 2", (0, 1, 1))
        self.edited("1 + 2", 2, 3, "plus", "1 plus 2", (1, 2, 2))

    def test_places_alone(self):
        for start, stop, text, after in [(1, 1, "   ", "1    + 2"), (1, 2, "", "1+ 2"), (0, 0, "\n", "\n1 + 2"), (5, 5, " ", "1 + 2 "), (3, 4, "\n\n", "1 +\n\n2")]:
            session = self.edited("1 + 2", start, stop, text, after, (3, 3, 3))
            self.assertEqual(session.made(), [])
            self.assertEqual(session.signs(), cut(LEXICON, after))

    def test_nothing_by_nothing(self):
        for k in range(6):
            self.edited("1 + 2", k, k, "", "1 + 2", (3, 3, 3))
        self.edited("", 0, 0, "", "", (0, 0, 0))

    def test_text_by_the_same_text(self):
        self.edited("1 + 2", 0, 5, "1 + 2", "1 + 2", (3, 3, 3))

    def test_two_signs_that_are_joined(self):
        session = self.edited("1 2 + 3", 1, 2, "", "12 + 3", (0, 2, 1))
        self.assertEqual(session.made(), [(0, 1), (0, 2), (0, 3)])
        self.edited("(1 2)", 2, 3, "0", "(102)", (1, 3, 2))
        self.edited("pl us", 2, 3, "", "plus", (0, 4, 1))

    def test_a_sign_that_is_split(self):
        session = self.edited("12 + 3", 1, 1, " ", "1 2 + 3", (0, 1, 2))
        self.assertEqual(session.made(), [(i, j) for i in range(2) for j in range(max(i, 1), 5)])
        self.edited("(1024)", 3, 3, "+", "(10+24)", (1, 2, 4))
        self.edited("plus", 1, 2, "", "pus", (0, 1, 3))

    def test_an_edit_that_reaches_beyond_its_place(self):
        self.edited("1 p 2", 3, 3, "lus", "1 plus 2", (1, 2, 2))
        self.edited("1 ? 2", 2, 4, "", "1 2", (1, 2, 1))
        self.edited("1 ? 2", 1, 4, "", "12", (0, 3, 1))

    def test_equal_signs_beside_the_edit(self):
        # The signs at the beginning count first, so the last of several equal ones is the new one.
        self.edited("+ +", 0, 0, "+ ", "+ + +", (2, 2, 3))
        self.edited("+ + +", 0, 2, "", "+ +", (2, 3, 2))

    def test_one_after_the_other(self):
        chosen = random.Random(603)
        for _ in range(25):
            text = "".join(chosen.choice(["1", "2", "+", " ", "(", ")", "plus", "p", "?"]) for _ in range(chosen.randrange(0, 8)))
            session = begun(text)
            for _ in range(6):
                start = chosen.randrange(0, len(text) + 1)
                stop = min(len(text), start + chosen.randrange(0, 4))
                new = "".join(chosen.choice(["1", "2", "+", " ", "(", ")", "us", "\n", "?"]) for _ in range(chosen.randrange(0, 4)))
                wanted = text[:start] + new + text[stop:]
                a, b, c = difference(cut(LEXICON, text), cut(LEXICON, wanted))
                session.edit(start, stop, new)
                self.check(session, wanted, (a, b, c))
                text = wanted

    def test_400_characters(self):
        session = begun("1" * 399)
        session.edit(399, 399, "+")
        self.check(session, "1" * 399 + "+", (1, 1, 2))
        session.edit(0, 400, " " * 400)
        self.check(session, " " * 400, (0, 2, 0))
        session.edit(100, 101, "1")
        self.check(session, " " * 100 + "1" + " " * 299, (0, 0, 1))

    def test_60_signs(self):
        session = begun("1+" * 29)
        session.edit(58, 58, "1+")
        self.check(session, "1+" * 30, (58, 58, 60))
        session.edit(0, 60, "+1" * 30)
        self.check(session, "+1" * 30, (0, 60, 60))


class Errors(Tests):
    def setUp(self):
        self.session = begun("1 + 2")
        self.session.edit(2, 3, "(")
        self.kept = state(self.session)
        self.assertEqual(self.kept[2:4], ((1, 2, 2), [(0, 2), (0, 3), (1, 2), (1, 3)]))

    def fails(self, error, start, stop, text):
        """The edit fails, and nothing is changed."""
        with self.assertRaises(error) as caught:
            self.session.edit(start, stop, text)
        self.assertIs(caught.exception.__class__, error)
        self.assertEqual(caught.exception.at, 0)
        self.assertIsInstance(caught.exception, MendError)
        self.assertEqual(state(self.session), self.kept)

    def test_indexes_out_of_range(self):
        for start, stop in [(-1, 0), (-1, -1), (0, -1), (-5, 5), (1, 0), (5, 4), (0, 6), (5, 6), (6, 6), (6, 5), (-2 ** 40, 1), (1, 2 ** 40)]:
            for text in ["", "1", "1 + 2"]:
                self.fails(OutOfRange, start, stop, text)

    def test_too_long(self):
        for start, stop, many in [(0, 0, 396), (5, 5, 396), (0, 5, 401), (1, 4, 399), (0, 0, 1000)]:
            self.fails(TooLong, start, stop, " " * many)
            self.fails(TooLong, start, stop, "1" * many)

    def test_too_many_signs(self):
        for start, stop, many in [(0, 0, 58), (5, 5, 58), (0, 5, 61), (2, 3, 59)]:
            self.fails(TooManySigns, start, stop, "+" * many)
            self.fails(TooManySigns, start, stop, "?" * many)

    def test_too_many_signs_by_one_that_is_split(self):
        self.session = begun("12" + "+1" * 29)
        self.assertEqual(len(self.session.signs()), 59)
        self.session.edit(60, 60, "+")
        self.kept = state(self.session)
        self.fails(TooManySigns, 1, 1, " ")
        self.session.edit(1, 1, "3")
        self.assertEqual(len(self.session.signs()), 60)

    def test_the_order_of_the_errors(self):
        for start, stop in [(-1, 0), (2, 1), (5, 6), (6, 6)]:
            for text in ["+" * 61, " " * 401, "+" * 401]:
                self.fails(OutOfRange, start, stop, text)
        self.fails(TooLong, 0, 0, "+" * 396)
        self.fails(TooLong, 0, 5, "+" * 401)
        self.fails(TooManySigns, 0, 5, "+" * 400)

    def test_a_text_that_is_too_long_from_the_beginning(self):
        self.session = begun("1" * 500)
        self.kept = state(self.session)
        self.fails(TooLong, 0, 1, "")
        self.fails(TooLong, 0, 99, "")
        self.session.edit(0, 100, "")
        self.check(self.session, "1" * 400, (0, 1, 1))

    def test_the_session_goes_on(self):
        self.fails(OutOfRange, 6, 6, "")
        self.fails(TooLong, 0, 0, " " * 400)
        self.fails(TooManySigns, 0, 0, "+" * 60)
        self.session.edit(2, 3, "+")
        self.check(self.session, "1 + 2", (1, 2, 2))


class Copies(Tests):
    def test_the_same_state(self):
        session = begun("1 + ?")
        self.assertEqual(state(session.copy()), state(session))
        self.assertIs(session.copy().__class__, TextSession)
        session.edit(4, 5, "3 ")
        self.assertEqual(state(session.copy()), state(session))
        self.assertEqual(session.copy().replaced(), (2, 3, 3))

    def test_each_goes_on_by_itself(self):
        for first in [True, False]:
            session = begun("1 + 2")
            session.edit(0, 1, "(")
            other = session.copy()
            going, staying = (session, other) if first else (other, session)
            kept = state(staying)
            going.edit(5, 5, " + 3")
            self.assertEqual(state(staying), kept)
            self.check(going, "( + 2 + 3", (3, 3, 5))
            staying.edit(4, 5, ")")
            self.check(staying, "( + )", (2, 3, 3))
            self.check(going, "( + 2 + 3", (3, 3, 5))

    def test_the_limits_of_a_copy(self):
        session = begun("1+" * 30).copy()
        with self.assertRaises(TooManySigns):
            session.edit(0, 0, "+")
        with self.assertRaises(TooLong):
            session.edit(0, 0, " " * 341)
        with self.assertRaises(OutOfRange):
            session.edit(61, 61, "")
        session.edit(0, 0, " " * 340)
        self.assertEqual(len(session.text()), 400)


class WhatIsHandedInAndOut(Tests):
    def test_what_was_handed_in_is_changed(self):
        patterns, grammar, exceptions = copy.deepcopy(LEXICON[0]), copy.deepcopy(SUMS), {}
        session = TextSession((patterns, " \n"), grammar, (3, 2, 4, exceptions), "1 + ?")
        other = session.copy()
        patterns.insert(0, ("CLOSE", "run", "0123456789"))
        grammar[0][1].append("PLUS")
        grammar.append(("part", ["PLUS"]))
        exceptions[("put", "NUMBER")] = 1000
        for one in [session, other]:
            self.check(one, "1 + ?", (0, 0, 3), stretches_of("abc"))
            one.edit(4, 5, "4 +")
            self.check(one, "1 + 4 +", (2, 3, 4))

    def test_what_was_handed_in_stays(self):
        lexicon, grammar, prices = copy.deepcopy(LEXICON), copy.deepcopy(SUMS), (3, 2, 4, {("out", "OTHER"): 1})
        kept = copy.deepcopy((lexicon, grammar, prices))
        session = TextSession(lexicon, grammar, prices, "1 + ?")
        session.edit(0, 3, "")
        session.copy().edit(0, 0, "1")
        state(session)
        with self.assertRaises(OutOfRange):
            session.edit(9, 9, "")
        self.assertEqual((lexicon, grammar, prices), kept)

    def test_what_was_handed_out_is_changed(self):
        session = begun("1 + ? 2")
        session.edit(0, 0, "(")
        other = session.copy()
        kept = copy.deepcopy(state(session))
        for one in [session, other]:
            found = state(one)
            for each in lists_in(found):
                each.clear()
            self.assertEqual(state(session), kept)
            self.assertEqual(state(other), kept)
        session.edit(8, 8, ")")
        self.check(session, "(1 + ? 2)", (5, 5, 6))

    def test_all_that_is_handed_out_is_new(self):
        session = begun("1 + ?")
        found = [state(session), state(session), state(session.copy())]
        self.assertEqual(len({id(one) for one in lists_in(found)}), len(lists_in(found)))


class SeveralWays(Tests):
    def test_the_same_row(self):
        """Texts with the same kinds of signs have one table and one mending (point 604)."""
        wanted = begun("1 + ( 2")
        for texts in [["", "1 + ( 2"], ["1 + 2", "1 + ( 2"], ["33plus(4"], ["1 +( 2 3", "1 plus (\n2"], ["?", "? ?", "2", "2 + (7"]]:
            session = begun(texts[0])
            for text in texts[1:]:
                session.edit(0, len(session.text()), text)
            self.assertEqual((session.table(), session.mending()), (wanted.table(), wanted.mending()))


if __name__ == "__main__":
    unittest.main()
