"""Points 2, 4, 601, 602 and 604, and leastmend/edits/session.py."""

import copy
import inspect
import itertools
import random
import unittest
import unittest.mock

from leastmend.edits import session as module
from leastmend.edits.session import Session
from leastmend.errors import MendError, OutOfRange, TooManySigns
from leastmend.tables.table import filled, table
from leastmend.trees.best import told_mending
from test_table import LISTS, PLAIN, SUMS, some_prices, some_row, sound_grammar, stretches_of
from told import lists_in

METHODS = [("__init__", ["self", "grammar", "prices", "row"]), ("replace", ["self", "start", "stop", "new"]), ("made", ["self"]),
           ("row", ["self"]), ("table", ["self"]), ("mending", ["self"]), ("copy", ["self"])]


class TheInterface(unittest.TestCase):
    def test_the_class_and_its_methods(self):
        self.assertEqual(Session.__module__, "leastmend.edits.session")
        for name, arguments in METHODS:
            method = vars(Session)[name]
            self.assertEqual(list(inspect.signature(method).parameters), arguments)


def state(session):
    """Return all that a session tells."""
    return (session.row(), session.table(), session.made(), session.mending())


def touched(row, start, many):
    """Return the stretches of a new row that point 602 calls touched."""
    return [(i, j) for i, j in stretches_of(row) if i < start + many and j > start]


class Tests(unittest.TestCase):
    def check(self, session, grammar, prices, row, made):
        """The session has this row, its table and its mending, and has made these stretches anew."""
        entries = table(grammar, prices, row)
        self.assertEqual(session.row(), row)
        self.assertEqual(session.table(), entries)
        self.assertEqual(session.mending(), told_mending(grammar, prices, row, entries))
        self.assertEqual(session.made(), made)


class ANewSession(Tests):
    def test_ordinary(self):
        for row in [["OPEN"], ["OPEN", "X", "CLOSE"], ["OTHER"] * 5]:
            self.check(Session(LISTS, PLAIN, row), LISTS, PLAIN, row, stretches_of(row))

    def test_the_empty_row(self):
        self.check(Session(LISTS, PLAIN, []), LISTS, PLAIN, [], [(0, 0)])

    def test_made_is_ascending(self):
        self.assertEqual(Session(LISTS, PLAIN, ["OPEN", "OPEN"]).made(), [(0, 0), (0, 1), (0, 2), (1, 1), (1, 2), (2, 2)])

    def test_60_and_61_kinds(self):
        row = ["A", "B"] * 30
        self.check(Session([("a", ["A", "a"]), ("a", [])], PLAIN, row), [("a", ["A", "a"]), ("a", [])], PLAIN, row, stretches_of(row))
        for many in [61, 62, 100]:
            with self.assertRaises(TooManySigns) as caught:
                Session(LISTS, PLAIN, ["OPEN"] * many)
            self.assertEqual(caught.exception.at, 0)
            self.assertIsInstance(caught.exception, MendError)


class Replace(Tests):
    def replaced(self, grammar, prices, row, start, stop, new):
        """Make a replacement in a new session, test what is behind it, and return the session."""
        session = Session(grammar, prices, row)
        self.assertIsNone(session.replace(start, stop, new))
        wanted = row[:start] + new + row[stop:]
        self.check(session, grammar, prices, wanted, touched(wanted, start, len(new)))
        return session

    def test_kinds_that_are_put_in(self):
        row = ["OPEN", "X", "CLOSE"]
        for start in range(4):
            for new in [["CLOSE"], ["OPEN", "OPEN"], ["OTHER", "CLOSE", "OPEN"]]:
                self.replaced(LISTS, PLAIN, row, start, start, new)
        self.replaced(LISTS, PLAIN, [], 0, 0, ["OPEN", "CLOSE"])

    def test_kinds_that_are_taken_out(self):
        row = ["OPEN", "X", "CLOSE", "CLOSE"]
        for start, stop in stretches_of(row):
            if start < stop:
                self.replaced(LISTS, PLAIN, row, start, stop, [])

    def test_kinds_that_are_exchanged(self):
        row = ["OPEN", "X", "CLOSE", "CLOSE"]
        for start, stop in stretches_of(row):
            for new in [["OPEN"] * (stop - start), ["OTHER"], ["X", "OPEN", "CLOSE"]]:
                self.replaced(LISTS, PLAIN, row, start, stop, new)

    def test_nothing_by_nothing(self):
        row = ["OPEN", "X", "CLOSE"]
        for start in range(4):
            self.replaced(LISTS, PLAIN, row, start, start, [])
        self.replaced(LISTS, PLAIN, [], 0, 0, [])

    def test_kinds_by_the_same_kinds(self):
        row = ["OPEN", "X", "CLOSE"]
        for start, stop in stretches_of(row):
            self.replaced(LISTS, PLAIN, row, start, stop, row[start:stop])

    def test_made(self):
        row = ["OPEN", "X", "CLOSE"]
        for start, stop, new, made in [
                (1, 2, ["OPEN"], [(0, 2), (0, 3), (1, 2), (1, 3)]), (0, 1, ["X"], [(0, 1), (0, 2), (0, 3)]),
                (2, 3, ["X"], [(0, 3), (1, 3), (2, 3)]), (3, 3, ["X"], [(0, 4), (1, 4), (2, 4), (3, 4)]),
                (0, 0, ["X"], [(0, 1), (0, 2), (0, 3), (0, 4)]), (0, 1, [], []), (2, 3, [], []), (1, 2, [], [(0, 2)]),
                (0, 3, [], []), (0, 0, [], []), (3, 3, [], []), (1, 1, [], [(0, 2), (0, 3)]),
                (1, 2, ["X", "X"], [(0, 2), (0, 3), (0, 4), (1, 2), (1, 3), (1, 4), (2, 2), (2, 3), (2, 4)]),
                (0, 3, ["X"], [(0, 1)]), (1, 3, ["X"], [(0, 2), (1, 2)])]:
            self.assertEqual(self.replaced(LISTS, PLAIN, row, start, stop, new).made(), made)

    def test_the_empty_stretch_inside_the_new_kinds(self):
        session = self.replaced(LISTS, PLAIN, ["OPEN", "CLOSE"], 0, 2, ["OPEN", "X", "CLOSE"])
        self.assertEqual(session.made(), [(0, 1), (0, 2), (0, 3), (1, 1), (1, 2), (1, 3), (2, 2), (2, 3)])

    def test_one_after_the_other(self):
        chosen = random.Random(602)
        for _ in range(60):
            grammar, prices, row = sound_grammar(chosen), some_prices(chosen), some_row(chosen, 5)
            session = Session(grammar, prices, row)
            for _ in range(5):
                start = chosen.randrange(0, len(row) + 1)
                stop = chosen.randrange(start, len(row) + 1)
                new = some_row(chosen, 3)
                session.replace(start, stop, new)
                row = row[:start] + new + row[stop:]
                self.check(session, grammar, prices, row, touched(row, start, len(new)))

    def test_exactly_the_touched_stretches_are_made(self):
        """The other ones are known when the table is made, as the table had them before (point 602)."""
        chosen = random.Random(603)
        for _ in range(60):
            row, new = some_row(chosen, 5), some_row(chosen, 3)
            start = chosen.randrange(0, len(row) + 1)
            stop = chosen.randrange(start, len(row) + 1)
            session = Session(SUMS, PLAIN, row)
            before = session.table()
            with unittest.mock.patch.object(module, "filled", wraps=filled) as made:
                session.replace(start, stop, new)
            self.assertEqual(made.call_count, 1)
            after, known = made.call_args[0][2:]
            self.assertEqual(after, row[:start] + new + row[stop:])
            moved = len(new) - (stop - start)
            wanted = {(i, j): before[(i, j)] if j <= start else before[(i - moved, j - moved)]
                      for i, j in stretches_of(after) if (i, j) not in touched(after, start, len(new))}
            self.assertEqual(known, wanted)

    def test_entries_that_are_not_touched_are_kept(self):
        """They are those that the session had, not only equal ones."""
        session = Session(SUMS, PLAIN, ["NUMBER", "PLUS", "NUMBER", "PLUS", "NUMBER"])
        first = session.table()
        session.replace(2, 3, ["NUMBER", "X"])
        second = session.table()
        for key in first[(0, 2)]:
            self.assertIs(second[(0, 2)][key], first[(0, 2)][key])
            self.assertIs(second[(4, 6)][key], first[(3, 5)][key])

    def test_60_kinds(self):
        grammar = [("a", ["A", "a"]), ("a", [])]
        session = Session(grammar, PLAIN, ["A"] * 58)
        session.replace(30, 30, ["B", "A"])
        row = ["A"] * 30 + ["B"] + ["A"] * 29
        self.check(session, grammar, PLAIN, row, touched(row, 30, 2))
        session.replace(0, 60, ["B"] * 60)
        self.check(session, grammar, PLAIN, ["B"] * 60, touched(["B"] * 60, 0, 60))
        session.replace(10, 60, [])
        self.check(session, grammar, PLAIN, ["B"] * 10, [])


class Errors(Tests):
    def setUp(self):
        self.session = Session(LISTS, PLAIN, ["OPEN", "X", "CLOSE"])
        self.session.replace(1, 2, ["OPEN"])
        self.kept = state(self.session)
        self.assertEqual(self.kept[2], [(0, 2), (0, 3), (1, 2), (1, 3)])

    def fails(self, error, start, stop, new):
        """The replacement fails, and nothing is changed."""
        with self.assertRaises(error) as caught:
            self.session.replace(start, stop, new)
        self.assertIs(caught.exception.__class__, error)
        self.assertEqual(caught.exception.at, 0)
        self.assertIsInstance(caught.exception, MendError)
        self.assertEqual(state(self.session), self.kept)

    def test_indexes_out_of_range(self):
        for start, stop in [(-1, 0), (-1, -1), (0, -1), (-3, 3), (1, 0), (3, 2), (0, 4), (3, 4), (4, 4), (4, 3), (5, 9),
                            (-2 ** 40, 2), (0, 2 ** 40), (2 ** 40, 2 ** 40)]:
            for new in [[], ["X"]]:
                self.fails(OutOfRange, start, stop, new)

    def test_too_many_kinds(self):
        for start, stop, many in [(0, 0, 58), (3, 3, 58), (0, 3, 61), (1, 2, 59), (0, 0, 1000)]:
            self.fails(TooManySigns, start, stop, ["X"] * many)

    def test_the_indexes_count_first(self):
        for start, stop in [(-1, 0), (2, 1), (3, 4), (4, 4)]:
            self.fails(OutOfRange, start, stop, ["X"] * 61)

    def test_the_session_goes_on(self):
        self.fails(OutOfRange, 4, 4, [])
        self.fails(TooManySigns, 0, 0, ["X"] * 58)
        self.session.replace(0, 0, ["X"])
        self.check(self.session, LISTS, PLAIN, ["X", "OPEN", "OPEN", "CLOSE"], [(0, 1), (0, 2), (0, 3), (0, 4)])

    def test_just_60_kinds(self):
        self.session.replace(0, 0, ["X"] * 57)
        self.assertEqual(len(self.session.row()), 60)
        self.kept = state(self.session)
        self.fails(TooManySigns, 0, 0, ["X"])
        self.fails(TooManySigns, 60, 60, ["X"])
        self.session.replace(0, 1, ["OPEN"])
        self.assertEqual(self.session.row()[0], "OPEN")


class Copies(Tests):
    def test_the_same_state(self):
        session = Session(LISTS, PLAIN, ["OPEN", "X"])
        self.assertEqual(state(session.copy()), state(session))
        self.assertIs(session.copy().__class__, Session)
        session.replace(1, 1, ["CLOSE"])
        self.assertEqual(state(session.copy()), state(session))
        self.assertEqual(session.copy().made(), [(0, 2), (0, 3), (1, 2), (1, 3)])

    def test_each_goes_on_by_itself(self):
        for first in [True, False]:
            session = Session(LISTS, PLAIN, ["OPEN", "X", "CLOSE"])
            session.replace(0, 1, ["X"])
            other = session.copy()
            going, staying = (session, other) if first else (other, session)
            kept = state(staying)
            going.replace(1, 3, ["OPEN", "CLOSE", "CLOSE"])
            self.assertEqual(state(staying), kept)
            self.check(going, LISTS, PLAIN, ["X", "OPEN", "CLOSE", "CLOSE"], touched("abcd", 1, 3))
            staying.replace(3, 3, ["CLOSE"])
            self.check(going, LISTS, PLAIN, ["X", "OPEN", "CLOSE", "CLOSE"], touched("abcd", 1, 3))
            self.check(staying, LISTS, PLAIN, ["X", "X", "CLOSE", "CLOSE"], touched("abcd", 3, 1))

    def test_a_copy_of_a_full_row(self):
        session = Session([("a", ["A", "a"]), ("a", [])], PLAIN, ["A"] * 60)
        other = session.copy()
        self.assertEqual(state(other), state(session))
        with self.assertRaises(TooManySigns):
            other.replace(0, 0, ["A"])

    def test_copies_of_copies(self):
        session = Session(SUMS, PLAIN, ["NUMBER"])
        copies = [session]
        for _ in range(3):
            copies.append(copies[-1].copy())
            copies[-1].replace(0, 0, ["PLUS"])
        self.assertEqual([len(one.row()) for one in copies], [1, 2, 3, 4])
        for one in copies:
            self.assertEqual(one.table(), table(SUMS, PLAIN, one.row()))


class WhatIsHandedInAndOut(Tests):
    def test_what_was_handed_in_is_changed(self):
        grammar, exceptions, row, new = copy.deepcopy(LISTS), {("out", "X"): 1}, ["OPEN", "X", "CLOSE"], ["X", "CLOSE"]
        session = Session(grammar, (3, 2, 4, exceptions), row)
        other = session.copy()
        grammar[0][1].append("OPEN")
        grammar.append(("items", ["OPEN"]))
        exceptions[("put", "OPEN")] = 1000
        exceptions[("out", "X")] = 900
        row.append("OPEN")
        row[0] = "X"
        for one in [session, other]:
            self.check(one, LISTS, (3, 2, 4, {("out", "X"): 1}), ["OPEN", "X", "CLOSE"], stretches_of("abc"))
            one.replace(1, 1, new)
            new.append("OPEN")
            new.pop(0)
            new[:] = ["X", "CLOSE"]
            wanted = ["OPEN", "X", "CLOSE", "X", "CLOSE"]
            self.check(one, LISTS, (3, 2, 4, {("out", "X"): 1}), wanted, touched(wanted, 1, 2))

    def test_what_was_handed_in_stays(self):
        grammar, prices, row, new = copy.deepcopy(LISTS), (3, 2, 4, {("out", "X"): 1}), ["OPEN", "X", "CLOSE"], ["X", "CLOSE"]
        kept = copy.deepcopy((grammar, prices, row, new))
        session = Session(grammar, prices, row)
        session.replace(0, 2, new)
        session.replace(2, 2, new)
        session.copy().replace(0, 0, row)
        state(session)
        with self.assertRaises(OutOfRange):
            session.replace(9, 9, new)
        self.assertEqual((grammar, prices, row, new), kept)

    def test_what_was_handed_out_is_changed(self):
        session = Session(LISTS, PLAIN, ["OPEN", "X", "OPEN"])
        session.replace(0, 0, ["X"])
        other = session.copy()
        kept = copy.deepcopy(state(session))
        for one in [session, other]:
            found = state(one)
            self.assertGreater(len(lists_in(found)), 6)
            for each in lists_in(found):
                each.clear()
            self.assertEqual(state(session), kept)
            self.assertEqual(state(other), kept)
        session.row().append("X")
        session.table()[(0, 0)].clear()
        session.made().append((9, 9))
        session.replace(4, 4, ["CLOSE"])
        wanted = kept[0] + ["CLOSE"]
        self.check(session, LISTS, PLAIN, wanted, touched(wanted, 4, 1))

    def test_all_that_is_handed_out_is_new(self):
        session = Session(LISTS, PLAIN, ["OPEN", "X"])
        found = [state(session), state(session), state(session.copy())]
        self.assertEqual(len({id(one) for one in lists_in(found)}), len(lists_in(found)))

    def test_the_row_that_was_handed_out_is_put_in(self):
        session = Session(LISTS, PLAIN, ["OPEN", "X"])
        row = session.row()
        session.replace(1, 1, row)
        self.assertEqual(session.row(), ["OPEN", "OPEN", "X", "X"])
        self.assertEqual(row, ["OPEN", "X"])


class SeveralWays(Tests):
    def test_the_same_row(self):
        """A row has one table and one mending, however it was reached (point 604)."""
        chosen = random.Random(604)
        for _ in range(40):
            grammar, prices, row = sound_grammar(chosen), some_prices(chosen), some_row(chosen, 5)
            ways = [Session(grammar, prices, row) for _ in range(2)]
            for _ in range(3):
                session = Session(grammar, prices, some_row(chosen, 5))
                session.replace(0, len(session.row()) // 2, some_row(chosen, 3))
                session.replace(0, len(session.row()), row)
                ways.append(session)
            session = Session(grammar, prices, [])
            for kind in row[::-1]:
                session.replace(0, 0, [kind])
            ways.append(session)
            ways[1].replace(0, 0, ["OTHER"])
            ways[1].replace(0, 1, [])
            entries = table(grammar, prices, row)
            for one in ways:
                self.assertEqual((one.row(), one.table(), one.mending()), (row, entries, told_mending(grammar, prices, row, entries)))

    def test_all_short_ways(self):
        wanted = Session(LISTS, PLAIN, ["OPEN", "CLOSE"])
        for start, stop in stretches_of("ab"):
            for row in itertools.product(["OPEN", "CLOSE", "X"], repeat=2):
                session = Session(LISTS, PLAIN, list(row))
                session.replace(start, stop, ["X"])
                session.replace(0, len(session.row()), ["OPEN", "CLOSE"])
                self.assertEqual((session.table(), session.mending()), (wanted.table(), wanted.mending()))


if __name__ == "__main__":
    unittest.main()
