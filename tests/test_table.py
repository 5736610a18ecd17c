"""Points 2 and 303 to 309, and leastmend/tables/table.py."""

import copy
import functools
import inspect
import itertools
import random
import unittest

from leastmend.errors import MendError
from leastmend.grammars.sound import check_grammar
from leastmend.tables import table as module
from leastmend.tables.prices import is_prices
from leastmend.tables.table import filled, table, whole_cost

LISTS = [("list", ["OPEN", "items", "CLOSE"]), ("items", []), ("items", ["list", "items"])]
SUMS = [("sum", ["part"]), ("sum", ["sum", "PLUS", "part"]), ("part", ["NUMBER"]), ("part", ["OPEN", "sum", "CLOSE"])]
PLAIN = (3, 2, 4, {})


class TheInterface(unittest.TestCase):
    def test_the_functions_and_their_arguments(self):
        wanted = [("table", ["grammar", "prices", "row"]), ("filled", ["grammar", "prices", "row", "known"]),
                  ("whole_cost", ["grammar", "prices", "row", "entries"])]
        for name, arguments in wanted:
            function = getattr(module, name)
            self.assertEqual(function.__module__, "leastmend.tables.table")
            self.assertEqual(list(inspect.signature(function).parameters), arguments)


def stretches_of(row):
    """Return the stretches of a row."""
    return [(i, j) for i in range(len(row) + 1) for j in range(i, len(row) + 1)]


def keys_of(grammar):
    """Return the keys of the entries of each stretch."""
    rests = [("rest", rule, dot) for rule, (_, symbols) in enumerate(grammar) for dot in range(len(symbols) + 1)]
    return sorted({("name", name) for name, _ in grammar}) + rests


def told_leaf(prices, row, kind, i, j):
    """Return the cost of a leaf as point 304 tells it."""
    put, out, change, exceptions = prices
    if i == j:
        return (exceptions.get(("put", kind), put), 1)
    price = 0 if row[j - 1] == kind else exceptions.get(("change", row[j - 1], kind), change)
    for k in range(i, j - 1):
        price += exceptions.get(("out", row[k]), out)
    return (price, 1)


def least_of_all_trees(grammar, prices, row):
    """Return the table of a row, with the least costs of all trees that do not contain themselves (point 308)."""
    names = {name for name, _ in grammar}

    @functools.lru_cache(None)
    def of_name(name, i, j, around):
        if name in around:
            return None
        found = [of_symbols(tuple(symbols), i, j, around | {name}) for owner, symbols in grammar if owner == name]
        return min([(price, size + 1) for price, size in filter(None, found)], default=None)

    @functools.lru_cache(None)
    def of_symbols(symbols, i, j, around):
        found = []
        for ends in itertools.combinations_with_replacement(range(i, j + 1), max(len(symbols) - 1, 0)):
            cuts = (i,) + ends + (j,)
            if not symbols and i < j:
                continue
            parts = []
            for symbol, k, m in zip(symbols, cuts, cuts[1:]):
                if symbol in names:
                    parts.append(of_name(symbol, k, m, around if (k, m) == (i, j) else frozenset()))
                else:
                    parts.append(told_leaf(prices, row, symbol, k, m))
            if None not in parts:
                found.append((sum(part[0] for part in parts), sum(part[1] for part in parts)))
        return min(found, default=None)

    wanted = {}
    for i, j in stretches_of(row):
        wanted[(i, j)] = {("name", name): of_name(name, i, j, frozenset()) for name in names}
        for rule, (_, symbols) in enumerate(grammar):
            for dot in range(len(symbols) + 1):
                wanted[(i, j)][("rest", rule, dot)] = of_symbols(tuple(symbols[dot:]), i, j, frozenset())
    return wanted


def least_in_rounds(grammar, prices, row, known):
    """Return the table of a row with known stretches, made in rounds from the round before it (point 308)."""
    names = {name for name, _ in grammar}
    made = {}
    for i, j in sorted(stretches_of(row), key=lambda stretch: stretch[1] - stretch[0]):
        if (i, j) in known:
            made[(i, j)] = dict(known[(i, j)])
            continue
        made[(i, j)] = {key: None for key in keys_of(grammar)}
        while True:
            fresh = {}
            for key in keys_of(grammar):
                if key[0] == "name":
                    found = [made[(i, j)][("rest", rule, 0)] for rule, (name, _) in enumerate(grammar) if name == key[1]]
                    fresh[key] = min([(price, size + 1) for price, size in filter(None, found)], default=None)
                else:
                    fresh[key] = told_rest(grammar, prices, row, made, names, key, i, j)
            if fresh == made[(i, j)]:
                break
            made[(i, j)] = fresh
    return made


def told_rest(grammar, prices, row, made, names, key, i, j):
    """Return the entry of a rest, from the entries that are there."""
    _, rule, dot = key
    symbols = grammar[rule][1]
    if dot == len(symbols):
        return (0, 0) if i == j else None
    found = []
    for k in range(i, j + 1):
        symbol = symbols[dot]
        one = made[(i, k)][("name", symbol)] if symbol in names else told_leaf(prices, row, symbol, i, k)
        two = made[(k, j)][("rest", rule, dot + 1)]
        if one is not None and two is not None:
            found.append((one[0] + two[0], one[1] + two[1]))
    return min(found, default=None)


def sound_grammar(chosen, most_rules=6, most_symbols=4):
    """Return a sound grammar over the names a to c and the kinds A to C."""
    while True:
        grammar = []
        for _ in range(chosen.randrange(1, most_rules + 1)):
            rule = (chosen.choice("abc"), [chosen.choice("abcABC") for _ in range(chosen.randrange(0, most_symbols + 1))])
            if rule not in grammar:
                grammar.append(rule)
        try:
            check_grammar(grammar, ["A", "B", "C"])
            return grammar
        except MendError:
            pass


def some_prices(chosen):
    """Return prices, small ones so that there are many ties."""
    exceptions = {}
    for _ in range(chosen.randrange(0, 5)):
        one, two = chosen.sample("ABC", 2)
        key = chosen.choice([("put", one), ("out", one), ("out", "OTHER"), ("change", one, two), ("change", "OTHER", one)])
        exceptions[key] = chosen.randrange(1, 6)
    return (chosen.randrange(1, 5), chosen.randrange(1, 5), chosen.randrange(1, 5), exceptions)


def some_row(chosen, longest):
    """Return a row, sometimes with kinds that the grammar does not have."""
    return [chosen.choice(["A", "B", "C", "A", "B", "C", "D", "OTHER"]) for _ in range(chosen.randrange(0, longest + 1))]


class TheForm(unittest.TestCase):
    def test_stretches_and_keys(self):
        for row in [[], ["OPEN"], ["OPEN", "OTHER", "CLOSE"], ["PLUS"] * 7]:
            for grammar in [LISTS, SUMS]:
                entries = table(grammar, PLAIN, row)
                self.assertIs(entries.__class__, dict)
                self.assertEqual(sorted(entries), stretches_of(row))
                for found in entries.values():
                    self.assertIs(found.__class__, dict)
                    self.assertEqual(sorted(found), keys_of(grammar))

    def test_the_kinds_of_values(self):
        for found in table(SUMS, PLAIN, ["NUMBER", "OTHER", "NUMBER"]).values():
            for cost in found.values():
                if cost is not None:
                    self.assertIs(cost.__class__, tuple)
                    self.assertEqual([part.__class__ for part in cost], [int, int])

    def test_60_signs(self):
        row = ["OPEN", "CLOSE"] * 30
        entries = table([("a", ["OPEN", "CLOSE", "a"]), ("a", [])], PLAIN, row)
        self.assertEqual(sorted(entries), stretches_of(row))
        self.assertEqual(len(entries), 1891)
        self.assertEqual(entries[(0, 60)][("name", "a")], (0, 91))
        self.assertEqual(entries[(0, 59)][("name", "a")], (3, 91))
        self.assertEqual(entries[(1, 60)][("name", "a")], (2, 88))
        self.assertEqual(entries[(1, 59)][("name", "a")], (5, 88))


class TheEntries(unittest.TestCase):
    def check(self, grammar, prices, row, stretch, wanted):
        """These entries stand in the table for the stretch."""
        found = table(grammar, prices, row)[stretch]
        self.assertEqual({key: found[key] for key in wanted}, wanted)

    def test_the_empty_stretch(self):
        self.check(LISTS, PLAIN, [], (0, 0), {
            ("name", "list"): (6, 4), ("name", "items"): (0, 1),
            ("rest", 0, 0): (6, 3), ("rest", 0, 1): (3, 2), ("rest", 0, 2): (3, 1), ("rest", 0, 3): (0, 0),
            ("rest", 1, 0): (0, 0),
            ("rest", 2, 0): (6, 5), ("rest", 2, 1): (0, 1), ("rest", 2, 2): (0, 0),
        })

    def test_a_stretch_of_one_sign(self):
        self.check(LISTS, PLAIN, ["OPEN"], (0, 1), {
            ("name", "list"): (3, 4), ("name", "items"): (3, 6),
            ("rest", 0, 0): (3, 3), ("rest", 0, 1): (4, 2), ("rest", 0, 2): (4, 1), ("rest", 0, 3): None,
            ("rest", 1, 0): None,
            ("rest", 2, 0): (3, 5), ("rest", 2, 1): (3, 6), ("rest", 2, 2): None,
        })

    def test_the_last_dot(self):
        for i, j in stretches_of("abc"):
            wanted = (0, 0) if i == j else None
            self.check(LISTS, PLAIN, ["OPEN", "OTHER", "CLOSE"], (i, j),
                       {("rest", 0, 3): wanted, ("rest", 1, 0): wanted, ("rest", 2, 2): wanted})

    def test_a_row_without_errors(self):
        row = "NUMBER PLUS OPEN NUMBER PLUS NUMBER CLOSE".split()
        self.check(SUMS, PLAIN, row, (0, 7), {("name", "sum"): (0, 15), ("rest", 1, 0): (0, 14), ("rest", 0, 0): (4, 10)})
        self.check(SUMS, PLAIN, row, (2, 7), {("name", "sum"): (0, 11), ("name", "part"): (0, 10), ("rest", 3, 0): (0, 9)})
        self.check(SUMS, PLAIN, row, (3, 6), {("name", "sum"): (0, 7), ("name", "part"): (4, 2)})

    def test_the_least_price(self):
        self.check([("a", ["A"])], PLAIN, ["X"], (0, 1), {("name", "a"): (4, 2)})
        self.check([("a", ["A", "B"])], PLAIN, ["A"], (0, 1), {("name", "a"): (3, 3)})
        self.check([("a", ["A", "B"])], PLAIN, ["A", "X", "B"], (0, 3), {("name", "a"): (2, 3)})
        # The sign in the middle is exchanged, or it is left out and another one is put in.
        for prices, price in [((3, 2, 4, {}), 4), ((3, 2, 5, {}), 5), ((3, 2, 6, {}), 5), ((1, 1, 1, {}), 1)]:
            self.check([("a", ["A", "B", "A"])], prices, ["A", "X", "A"], (0, 3), {("name", "a"): (price, 4)})

    def test_the_price_counts_before_the_size(self):
        self.check([("a", ["A"]), ("a", ["b", "b"]), ("b", ["c"]), ("c", ["B"])], PLAIN, ["B", "B"], (0, 2),
                   {("name", "a"): (0, 7)})
        self.check([("a", ["b", "b"]), ("a", ["A"]), ("b", ["c"]), ("c", ["B"])], PLAIN, ["B", "B"], (0, 2),
                   {("name", "a"): (0, 7)})

    def test_of_equal_prices_the_least_size(self):
        long, short = ("a", ["b"]), ("a", ["A"])
        for first, second in [(long, short), (short, long)]:
            self.check([first, second, ("b", ["c"]), ("c", ["A"])], PLAIN, ["A"], (0, 1),
                       {("name", "a"): (0, 2), ("name", "b"): (0, 3), ("name", "c"): (0, 2)})

    def test_the_size_of_a_price_that_is_met_by_two_splits(self):
        grammar = [("a", ["b", "b"]), ("b", ["A"]), ("b", ["A", "c", "A"]), ("c", []), ("c", ["d"]), ("d", ["A"])]
        self.check(grammar, PLAIN, ["A"] * 4, (0, 4), {("name", "a"): (0, 1 + 2 + 6)})

    def test_rules_without_symbols(self):
        self.check([("a", [])], PLAIN, ["A", "A"], (0, 0), {("name", "a"): (0, 1), ("rest", 0, 0): (0, 0)})
        self.check([("a", [])], PLAIN, ["A", "A"], (1, 1), {("name", "a"): (0, 1), ("rest", 0, 0): (0, 0)})
        self.check([("a", [])], PLAIN, ["A", "A"], (0, 1), {("name", "a"): None, ("rest", 0, 0): None})
        self.check([("a", [])], PLAIN, ["A", "A"], (0, 2), {("name", "a"): None, ("rest", 0, 0): None})

    def test_none_where_there_is_no_tree(self):
        grammar = [("a", ["A", "b"]), ("b", ["c", "c"]), ("c", [])]
        for i, j in [(0, 1), (0, 2), (1, 2)]:
            self.check(grammar, PLAIN, ["A", "A"], (i, j), {
                ("name", "b"): None, ("name", "c"): None, ("rest", 0, 1): None, ("rest", 1, 0): None, ("rest", 1, 1): None,
                ("rest", 2, 0): None, ("name", "a"): (0 if j - i == 1 else 2, 5)})

    def test_rules_of_one_name(self):
        grammar = [("a", ["b"]), ("b", ["c"]), ("c", ["d"]), ("d", ["A"])]
        self.check(grammar, PLAIN, ["A", "X"], (0, 1), {("name", "a"): (0, 5), ("name", "b"): (0, 4), ("name", "c"): (0, 3),
                                                       ("name", "d"): (0, 2), ("rest", 0, 0): (0, 4)})
        self.check(grammar, PLAIN, ["A", "X"], (0, 2), {("name", "a"): (6, 5)})
        self.check(grammar, PLAIN, ["A", "X"], (1, 1), {("name", "a"): (3, 5)})

    def test_long_chains_in_both_orders(self):
        names = "abcdefghijklmnopqrstuvwx"
        chain = [(names[k], [names[k + 1]]) for k in range(23)] + [("x", ["A"])]
        for grammar in [chain, chain[:1] + chain[:0:-1]]:
            for stretch, price in [((0, 0), 3), ((0, 1), 0), ((0, 2), 2)]:
                self.check(grammar, PLAIN, ["A", "A"], stretch, {("name", name): (price, 25 - k) for k, name in enumerate(names)})

    def test_names_within_themselves(self):
        self.check([("a", ["a"]), ("a", ["A"])], PLAIN, ["A"], (0, 1), {("name", "a"): (0, 2), ("rest", 0, 0): (0, 2)})
        self.check([("a", ["a", "a"]), ("a", [])], PLAIN, ["A"], (0, 0), {("name", "a"): (0, 1), ("rest", 0, 0): (0, 2)})
        self.check([("a", ["a", "a"]), ("a", [])], PLAIN, ["A"], (0, 1), {("name", "a"): None, ("rest", 0, 0): None})
        self.check([("a", ["a", "a"]), ("a", []), ("a", ["A"])], PLAIN, ["A"] * 3, (0, 3),
                   {("name", "a"): (0, 8), ("rest", 0, 0): (0, 7), ("rest", 0, 1): (0, 8)})

    def test_names_that_depend_on_each_other(self):
        grammar = [("a", ["b"]), ("a", ["A", "A"]), ("b", ["c"]), ("b", ["A", "B"]), ("c", ["a"]), ("c", ["B", "B"])]
        for order in itertools.permutations(range(6)):
            shuffled = [grammar[k] for k in order]
            found = table(shuffled, PLAIN, ["A", "A", "B", "B"])
            self.assertEqual([found[(0, 2)][("name", name)] for name in "abc"], [(0, 3), (0, 5), (0, 4)])
            self.assertEqual([found[(1, 3)][("name", name)] for name in "abc"], [(0, 4), (0, 3), (0, 5)])
            self.assertEqual([found[(2, 4)][("name", name)] for name in "abc"], [(0, 5), (0, 4), (0, 3)])

    def test_names_that_depend_on_each_other_beside_empty_ones(self):
        grammar = [("a", ["e", "b", "e"]), ("b", ["e", "a"]), ("b", ["A"]), ("e", []), ("e", ["b", "e"])]
        self.check(grammar, PLAIN, ["A"], (0, 1), {("name", "b"): (0, 2), ("name", "a"): (0, 5), ("name", "e"): (0, 4),
                                                 ("rest", 1, 0): (0, 6)})
        self.check(grammar, PLAIN, ["A"], (1, 1), {("name", "b"): (3, 2), ("name", "a"): (3, 5), ("name", "e"): (0, 1)})

    def test_an_empty_name_that_is_found_by_other_names(self):
        grammar = [("a", ["b", "b"]), ("b", ["c", "c"]), ("b", ["B"]), ("c", ["d"]), ("d", [])]
        self.check(grammar, PLAIN, [], (0, 0), {("name", "a"): (0, 11), ("name", "b"): (0, 5), ("rest", 0, 1): (0, 5)})

    def test_exceptions_and_other(self):
        prices = (3, 2, 4, {("out", "OTHER"): 1, ("change", "OTHER", "A"): 9, ("put", "A"): 5, ("change", "B", "A"): 1})
        grammar = [("a", ["A"]), ("a", ["A", "a"])]
        self.check(grammar, prices, ["OTHER"], (0, 1), {("name", "a"): (9, 2)})
        self.check(grammar, prices, ["OTHER", "A"], (0, 2), {("name", "a"): (1, 2)})
        self.check(grammar, prices, ["B", "OTHER", "B"], (0, 3), {("name", "a"): (3, 4)})
        self.check(grammar, prices, ["A", "OTHER"], (1, 1), {("name", "a"): (5, 2)})

    def test_great_numbers(self):
        names = "abcdefghijklmnopqrstuvw"
        grammar = [(names[k], [names[k + 1]] * 6) for k in range(22)] + [("w", ["K"])]
        size = 2
        for _ in range(22):
            size = 6 * size + 1
        self.check(grammar, (1000, 1000, 1000, {}), ["K"], (0, 0), {("name", "a"): (1000 * 6 ** 22, size)})
        self.check(grammar, (1000, 1000, 1000, {}), ["K"], (0, 1), {("name", "a"): (1000 * (6 ** 22 - 1), size)})

    def test_equal_kinds_and_signs_at_other_places(self):
        found = table(SUMS, PLAIN, ["NUMBER", "PLUS", "NUMBER", "PLUS"])
        self.assertEqual(found[(0, 2)], found[(2, 4)])
        self.assertEqual(found[(0, 1)], found[(2, 3)])
        self.assertEqual(found[(0, 0)], found[(4, 4)])

    def test_against_all_trees(self):
        """Many small grammars and rows, compared with the least costs of all their trees."""
        chosen = random.Random(307)
        for _ in range(250):
            grammar, prices, row = sound_grammar(chosen), some_prices(chosen), some_row(chosen, 4)
            self.assertTrue(is_prices(prices))
            self.assertEqual(table(grammar, prices, row), least_of_all_trees(grammar, prices, row), (grammar, prices, row))

    def test_against_rounds(self):
        """Larger grammars and longer rows, compared with a table that is made in rounds."""
        chosen = random.Random(308)
        for _ in range(40):
            grammar, prices, row = sound_grammar(chosen, 10, 6), some_prices(chosen), some_row(chosen, 8)
            self.assertEqual(table(grammar, prices, row), least_in_rounds(grammar, prices, row, {}), (grammar, prices, row))


class Filled(unittest.TestCase):
    def test_nothing_known(self):
        for row in [[], ["OPEN"], ["OPEN", "CLOSE", "OTHER", "CLOSE"]]:
            self.assertEqual(filled(LISTS, PLAIN, row, {}), table(LISTS, PLAIN, row))

    def test_all_known(self):
        row = ["OPEN", "CLOSE", "OTHER"]
        entries = table(LISTS, PLAIN, row)
        self.assertEqual(filled(LISTS, PLAIN, row, entries), entries)

    def test_some_known(self):
        chosen = random.Random(309)
        row = ["NUMBER", "PLUS", "PLUS", "OPEN", "NUMBER"]
        entries = table(SUMS, PLAIN, row)
        for _ in range(50):
            known = {stretch: entries[stretch] for stretch in entries if chosen.random() < 0.5}
            self.assertEqual(filled(SUMS, PLAIN, row, known), entries)

    def test_known_stretches_are_taken_as_they_are(self):
        row = ["OPEN", "CLOSE"]
        wrong = {key: (7, 7) for key in keys_of(LISTS)}
        nothing = {key: None for key in keys_of(LISTS)}
        for known in [wrong, nothing]:
            for stretch in stretches_of(row):
                found = filled(LISTS, PLAIN, row, {stretch: known})
                self.assertEqual(found[stretch], known)
            self.assertEqual(filled(LISTS, PLAIN, row, {stretch: known for stretch in stretches_of(row)}),
                             {stretch: known for stretch in stretches_of(row)})

    def test_longer_stretches_are_made_from_known_ones(self):
        # The list costs what its known part costs, though that is far from what its trees cost.
        row = ["OPEN", "X", "CLOSE"]
        inner = dict(table(LISTS, PLAIN, row)[(1, 2)])
        inner[("name", "items")] = (1, 100)
        found = filled(LISTS, PLAIN, row, {(1, 2): inner})
        self.assertEqual(found[(0, 3)][("name", "list")], (1, 103))
        self.assertEqual(table(LISTS, PLAIN, row)[(0, 3)][("name", "list")], (2, 4))

    def test_each_sort_of_known_entry_counts(self):
        grammar = [("a", ["A", "b", "C"]), ("b", ["B"])]
        row = ["A", "B", "C"]
        entries = table(grammar, PLAIN, row)
        self.assertEqual(entries[(0, 3)][("name", "a")], (0, 5))
        for stretch, key in [((1, 2), ("name", "b")), ((1, 3), ("rest", 0, 1)), ((2, 3), ("rest", 0, 2)), ((3, 3), ("rest", 0, 3))]:
            known = {stretch: {**entries[stretch], key: (0, 0)}}
            less = {("name", "b"): 3, ("rest", 0, 1): 2, ("rest", 0, 2): 4, ("rest", 0, 3): 5}[key]
            self.assertEqual(filled(grammar, PLAIN, row, known)[(0, 3)][("name", "a")], (0, less))
            known = {stretch: {**entries[stretch], key: None}}
            self.assertGreater(filled(grammar, PLAIN, row, known)[(0, 3)][("name", "a")], (0, 5))

    def test_a_wrong_rest_behind_the_last_symbol(self):
        # Such a rest is None over signs; where it is known to be something else, it counts.
        grammar = [("a", ["A"])]
        row = ["A", "X", "X"]
        known = {(1, 3): {("name", "a"): None, ("rest", 0, 0): None, ("rest", 0, 1): (1, 5)}}
        found = filled(grammar, PLAIN, row, known)
        self.assertEqual(found[(0, 3)], {("name", "a"): (1, 7), ("rest", 0, 0): (1, 6), ("rest", 0, 1): None})
        self.assertEqual(found[(2, 3)], {("name", "a"): (4, 2), ("rest", 0, 0): (4, 1), ("rest", 0, 1): None})

    def test_stretches_that_are_not_longer_play_no_part(self):
        row = ["OPEN", "CLOSE"]
        wrong = {key: (0, 0) for key in keys_of(LISTS)}
        entries = table(LISTS, PLAIN, row)
        found = filled(LISTS, PLAIN, row, {(0, 2): wrong})
        self.assertEqual(found, {**entries, (0, 2): wrong})
        found = filled(LISTS, PLAIN, row, {(0, 1): wrong})
        for stretch in [(0, 0), (1, 1), (2, 2), (1, 2)]:
            self.assertEqual(found[stretch], entries[stretch])

    def test_stretches_that_the_row_does_not_have(self):
        wrong = {key: (0, 0) for key in keys_of(LISTS)}
        for row in [[], ["OPEN"], ["OPEN", "CLOSE"]]:
            known = {stretch: wrong for stretch in [(0, 3), (3, 3), (2, 3), (1, 0), (2, 1), (7, 9), (0, 60), (2 ** 32 - 1, 0)]}
            self.assertEqual(filled(LISTS, PLAIN, row, known), table(LISTS, PLAIN, row))

    def test_against_rounds(self):
        """Many small grammars and rows with some known stretches, right ones and wrong ones."""
        chosen = random.Random(310)
        for _ in range(300):
            grammar, prices, row = sound_grammar(chosen), some_prices(chosen), some_row(chosen, 5)
            known = {}
            for stretch in stretches_of(row):
                if chosen.random() < 0.3:
                    known[stretch] = {key: chosen.choice([None, (0, 0), (chosen.randrange(9), chosen.randrange(9))])
                                      for key in keys_of(grammar)}
            kept = copy.deepcopy(known)
            found = filled(grammar, prices, row, known)
            self.assertEqual(found, least_in_rounds(grammar, prices, row, known), (grammar, prices, row, known))
            self.assertEqual(known, kept)


class WholeCost(unittest.TestCase):
    def check(self, grammar, prices, row, wanted):
        found = whole_cost(grammar, prices, row, table(grammar, prices, row))
        self.assertEqual(found, wanted)
        self.assertIs(found.__class__, tuple)

    def test_ordinary(self):
        self.check(LISTS, PLAIN, ["OPEN", "CLOSE"], (0, 4, 2))
        self.check(LISTS, PLAIN, ["OPEN", "CLOSE", "CLOSE"], (2, 4, 2))
        self.check(LISTS, PLAIN, ["OPEN", "OPEN", "CLOSE"], (2, 4, 3))
        self.check(SUMS, PLAIN, "NUMBER PLUS NUMBER NUMBER".split(), (2, 7, 3))

    def test_the_empty_row(self):
        self.check(LISTS, PLAIN, [], (6, 4, 0))
        self.check([("a", [])], PLAIN, [], (0, 1, 0))
        self.check(SUMS, PLAIN, [], (3, 3, 0))

    def test_signs_that_are_all_left_out(self):
        self.check([("a", [])], PLAIN, ["A", "OTHER"], (4, 1, 0))
        self.check([("a", [])], (3, 2, 4, {("out", "OTHER"): 50}), ["A", "OTHER", "OTHER"], (102, 1, 0))
        self.check([("a", ["A"])], (1, 1, 9, {}), ["X", "X"], (3, 2, 0))

    def test_the_signs_behind_are_left_out_at_their_own_prices(self):
        prices = (3, 2, 40, {("out", "B"): 7, ("out", "C"): 1})
        self.check([("a", ["A"])], prices, ["A", "B", "C", "D"], (10, 2, 1))
        self.check([("a", ["A"])], prices, ["B", "C", "A"], (8, 2, 3))

    def test_the_start_counts(self):
        self.check([("a", ["A", "b"]), ("b", [])], PLAIN, ["B"], (4, 3, 1))
        self.check([("b", []), ("b", ["b", "a"]), ("a", ["A", "b"])], PLAIN, ["B"], (2, 1, 0))

    def test_the_price_counts_before_the_size(self):
        self.check([("a", []), ("a", ["b"]), ("b", ["c"]), ("c", ["A"])], PLAIN, ["A"], (0, 4, 1))

    def test_of_equal_prices_the_least_size(self):
        # Left out and exchanged, the sign costs the same.
        prices = (3, 2, 2, {})
        self.check([("a", ["b"]), ("a", ["A"]), ("b", ["c"]), ("c", [])], prices, ["X"], (2, 2, 1))
        self.check([("a", []), ("a", ["A"])], prices, ["X"], (2, 1, 0))

    def test_of_equal_sizes_the_least_m(self):
        prices = (3, 2, 2, {})
        self.check([("a", ["b"]), ("a", ["A"]), ("b", [])], prices, ["X"], (2, 2, 0))
        self.check([("a", ["A"]), ("a", ["b"]), ("b", [])], prices, ["X", "X", "X"], (6, 2, 0))
        self.check([("a", ["A"])], PLAIN, ["A", "A", "A"], (4, 2, 1))
        self.check([("a", ["A"])], PLAIN, ["X", "A", "X", "A"], (6, 2, 2))

    def test_60_signs(self):
        self.check([("a", ["A"])], PLAIN, ["A"] * 60, (118, 2, 1))
        self.check([("a", ["A"])], PLAIN, ["X"] * 59 + ["A"], (118, 2, 60))

    def test_against_all_trees(self):
        chosen = random.Random(311)
        for _ in range(150):
            grammar, prices, row = sound_grammar(chosen), some_prices(chosen), some_row(chosen, 4)
            entries = least_of_all_trees(grammar, prices, row)
            found = []
            for m in range(len(row) + 1):
                cost = entries[(0, m)][("name", grammar[0][0])]
                if cost is not None:
                    left_out = sum(prices[3].get(("out", kind), prices[1]) for kind in row[m:])
                    found.append((cost[0] + left_out, cost[1], m))
            self.assertEqual(whole_cost(grammar, prices, row, entries), min(found), (grammar, prices, row))


class NothingIsModified(unittest.TestCase):
    def setUp(self):
        self.grammar = copy.deepcopy(SUMS)
        self.prices = (3, 2, 4, {("out", "OTHER"): 1})
        self.row = ["NUMBER", "OTHER", "PLUS"]

    def test_arguments(self):
        entries = table(self.grammar, self.prices, self.row)
        kept = copy.deepcopy(entries)
        filled(self.grammar, self.prices, self.row, entries)
        whole_cost(self.grammar, self.prices, self.row, entries)
        del entries[(0, 3)]
        filled(self.grammar, self.prices, self.row, entries)
        self.assertNotIn((0, 3), entries)
        self.assertEqual(entries, {stretch: kept[stretch] for stretch in kept if stretch != (0, 3)})
        self.assertEqual(self.grammar, SUMS)
        self.assertEqual(self.prices, (3, 2, 4, {("out", "OTHER"): 1}))
        self.assertEqual(self.row, ["NUMBER", "OTHER", "PLUS"])

    def test_what_is_returned_is_new(self):
        entries = table(self.grammar, self.prices, self.row)
        kept = copy.deepcopy(entries)
        entries[(0, 0)].clear()
        entries[(0, 3)][("name", "sum")] = None
        entries[(9, 9)] = {}
        self.assertEqual(table(self.grammar, self.prices, self.row), kept)

    def test_the_dicts_of_one_table_are_its_own(self):
        entries = table(self.grammar, self.prices, [])
        entries.update(table(self.grammar, self.prices, ["A", "A"]))
        self.assertEqual(len({id(found) for found in entries.values()}), 6)

    def test_what_is_filled_shares_nothing_with_what_was_known(self):
        known = table(self.grammar, self.prices, self.row)
        kept = copy.deepcopy(known)
        for many in [len(known), 4]:
            part = {stretch: known[stretch] for stretch in list(known)[:many]}
            found = filled(self.grammar, self.prices, self.row, part)
            for stretch in found:
                found[stretch].clear()
            found.clear()
            self.assertEqual(known, kept)
            self.assertEqual(filled(self.grammar, self.prices, self.row, part), kept)

    def test_one_dict_that_is_known_for_several_stretches(self):
        one = {key: (1, 1) for key in keys_of(self.grammar)}
        found = filled(self.grammar, self.prices, self.row, {(0, 0): one, (1, 1): one})
        found[(0, 0)].clear()
        self.assertEqual(found[(1, 1)], one)
        self.assertEqual(one, {key: (1, 1) for key in keys_of(self.grammar)})


if __name__ == "__main__":
    unittest.main()
