"""Points 2 and 105 to 107, and leastmend/grammars/sound.py."""

import copy
import inspect
import itertools
import random
import unittest

from leastmend.errors import MendError, NoRow, NotReached, UnknownSymbol
from leastmend.grammars import sound as module
from leastmend.grammars.sound import check_grammar, reached_names, shortest_rows

LISTS = [("list", ["OPEN", "items", "CLOSE"]), ("items", []), ("items", ["list", "items"])]

# The name of rule 0 has 2 * 6 ** 22 kinds in its only row.
HUGE = [("abcdefghijklmnopqrstuvwx"[k], ["abcdefghijklmnopqrstuvwx"[k + 1]] * 6) for k in range(22)] + [("w", ["K", "K"])]

SIXTY = [("sixty", ["ten"] * 6), ("ten", ["A", "four", "B", "four"]), ("four", ["C", "D", "C", "D"])]


class TheInterface(unittest.TestCase):
    def test_the_functions_and_their_arguments(self):
        wanted = [("check_grammar", ["grammar", "kinds"]), ("shortest_rows", ["grammar"]), ("reached_names", ["grammar"])]
        for name, arguments in wanted:
            function = getattr(module, name)
            self.assertEqual(function.__module__, "leastmend.grammars.sound")
            self.assertEqual(list(inspect.signature(function).parameters), arguments)


class ShortestRows(unittest.TestCase):
    def check(self, grammar, wanted):
        self.assertEqual(shortest_rows(grammar), wanted)

    def test_the_example_of_the_document(self):
        self.check(LISTS, {"list": ["OPEN", "CLOSE"], "items": []})

    def test_rules_within_themselves(self):
        self.check([("a", ["a", "A"])], {})
        self.check([("a", ["a"])], {})
        self.check([("a", ["a"]), ("a", ["A"])], {"a": ["A"]})
        self.check([("a", ["A", "a", "B"]), ("a", ["C"])], {"a": ["C"]})
        self.check([("a", ["b"]), ("b", ["a"]), ("b", ["B", "a"])], {})
        self.check([("a", ["b"]), ("b", ["c"]), ("c", ["a"]), ("c", ["C"])], {"a": ["C"], "b": ["C"], "c": ["C"]})

    def test_rules_without_symbols(self):
        self.check([("a", [])], {"a": []})
        self.check([("a", ["A"]), ("a", [])], {"a": []})
        self.check([("a", ["b", "b", "K", "b"]), ("b", [])], {"a": ["K"], "b": []})
        self.check([("a", ["a", "a"]), ("a", [])], {"a": []})

    def test_names_that_derive_nothing(self):
        self.check([("a", ["b"]), ("a", ["A", "A"]), ("b", ["b", "B"])], {"a": ["A", "A"]})
        self.check([("a", ["b", "A"]), ("b", ["B", "a"])], {})

    def test_names_without_a_rule(self):
        self.check([("a", ["b"])], {})
        self.check([("a", ["b"]), ("a", ["A", "A", "A"])], {"a": ["A", "A", "A"]})
        self.check([("a", ["A"]), ("c", ["A", "b"])], {"a": ["A"]})

    def test_the_fewest_kinds_count_before_the_order(self):
        self.check([("a", ["A", "A"]), ("a", ["Z"])], {"a": ["Z"]})
        self.check([("a", ["Z"]), ("a", ["A", "A"])], {"a": ["Z"]})

    def test_of_several_the_first_one_in_the_order_of_lists(self):
        rows = [["C", "A"], ["B", "C"], ["B", "A"], ["B", "B"], ["BA", "A"]]
        for order in itertools.permutations(rows):
            self.check([("a", row) for row in order], {"a": ["B", "A"]})

    def test_lists_are_compared_word_by_word(self):
        # Written without a space, the other one would be the first.
        for order in itertools.permutations([["A", "Z"], ["AA", "B"]]):
            self.check([("a", row) for row in order], {"a": ["A", "Z"]})
        for order in itertools.permutations([["AB"], ["B"], ["ABC"]]):
            self.check([("a", row) for row in order], {"a": ["AB"]})

    def test_the_first_one_through_other_names(self):
        self.check([("a", ["b", "b"]), ("b", ["Z"]), ("b", ["Y"]), ("b", ["c"]), ("c", ["X"])],
                   {"a": ["X", "X"], "b": ["X"], "c": ["X"]})
        self.check([("a", ["B", "b"]), ("a", ["c", "A"]), ("b", ["A"]), ("b", ["C"]), ("c", ["C"]), ("c", ["B"])],
                   {"a": ["B", "A"], "b": ["A"], "c": ["B"]})

    def test_a_row_of_as_many_kinds_that_is_found_late(self):
        self.check([("a", ["Z", "Z"]), ("a", ["b"]), ("b", ["c"]), ("c", ["d"]), ("d", ["A", "A"])],
                   {"a": ["A", "A"], "b": ["A", "A"], "c": ["A", "A"], "d": ["A", "A"]})

    def test_a_shorter_row_that_is_found_late(self):
        self.check([("a", ["b", "K"]), ("b", ["A", "B", "C"]), ("b", ["c"]), ("c", ["d"]), ("d", ["e"]), ("e", [])],
                   {"a": ["K"], "b": [], "c": [], "d": [], "e": []})

    def test_60_kinds(self):
        four = ["C", "D", "C", "D"]
        ten = ["A"] + four + ["B"] + four
        self.check(SIXTY, {"sixty": ten * 6, "ten": ten, "four": four})

    def test_61_kinds(self):
        for symbols in [["sixty", "K"], ["K", "sixty"], ["sixty", "none", "K"]]:
            found = shortest_rows([("more", symbols), ("none", [])] + SIXTY)
            self.assertEqual(sorted(found), ["four", "none", "sixty", "ten"])

    def test_60_kinds_beside_61(self):
        found = shortest_rows([("more", ["sixty", "K"]), ("more", ["sixty", "none"]), ("none", [])] + SIXTY)
        self.assertEqual(found["more"], found["sixty"])
        self.assertEqual(len(found["more"]), 60)

    def test_a_short_row_beside_a_long_one(self):
        found = shortest_rows([("a", ["more", "more"]), ("a", ["A"]), ("more", ["sixty", "K"])] + SIXTY)
        self.assertEqual(found["a"], ["A"])
        self.assertNotIn("more", found)

    def test_a_short_row_for_a_name_that_is_first_seen_with_a_long_one(self):
        found = shortest_rows([("a", ["more", "K"]), ("more", ["sixty", "K"]), ("more", ["b"]), ("b", ["B"])] + SIXTY)
        self.assertEqual(found["more"], ["B"])
        self.assertEqual(found["a"], ["B", "K"])

    def test_rows_without_measure(self):
        self.check(HUGE, {"w": ["K"] * 2, "v": ["K"] * 12})

    def test_rows_of_nothing_in_a_deep_grammar(self):
        found = shortest_rows(HUGE + [("w", [])])
        self.assertEqual(found, {name: [] for name in "abcdefghijklmnopqrstuvw"})

    def test_words_beyond_the_limit(self):
        self.check([("a", ["K" * 13]), ("b", ["n" * 13]), ("n" * 13, ["A"] * 7)],
                   {"a": ["K" * 13], "b": ["A"] * 7, "n" * 13: ["A"] * 7})

    def test_against_all_rows(self):
        """Many small grammars, compared with a list of all rows of at most 6 kinds."""
        chosen = random.Random(105)
        found_some = 0
        for _ in range(400):
            grammar = small_grammar(chosen)
            rows = all_rows(grammar, 6)
            found = shortest_rows(grammar)
            for name in rows:
                if rows[name]:
                    found_some += 1
                    self.assertEqual(found[name], list(min(rows[name], key=lambda row: (len(row), row))), grammar)
                elif name in found:
                    self.assertGreater(len(found[name]), 6, grammar)
            self.assertLessEqual(set(found), set(rows), grammar)
        self.assertGreater(found_some, 400)


def small_grammar(chosen):
    """Return a grammar of up to 7 rules over the names a to d and the kinds A to C."""
    grammar = []
    for _ in range(chosen.randrange(1, 8)):
        rule = (chosen.choice("abc"), [chosen.choice("abcdABC") for _ in range(chosen.randrange(0, 4))])
        if rule not in grammar:
            grammar.append(rule)
    return grammar


def all_rows(grammar, longest):
    """Return a dict from each name with rules to the set of all its rows of at most so many kinds."""
    rows = {name: set() for name, _ in grammar}
    before = None
    while before != rows:
        before = {name: set(rows[name]) for name in rows}
        for name, symbols in grammar:
            formed = {()}
            for symbol in symbols:
                parts = {(symbol,)} if symbol.isupper() else before.get(symbol, set())
                formed = {one + two for one in formed for two in parts if len(one + two) <= longest}
            rows[name] |= formed
    return rows


class Reached(unittest.TestCase):
    def check(self, grammar, wanted):
        self.assertEqual(reached_names(grammar), wanted)

    def test_ordinary(self):
        self.check(LISTS, ["items", "list"])

    def test_the_start_alone(self):
        self.check([("a", [])], ["a"])
        self.check([("a", ["K"])], ["a"])
        self.check([("a", ["a", "a"])], ["a"])

    def test_the_start_is_the_name_of_rule_0(self):
        self.check([("b", []), ("a", ["b"])], ["b"])

    def test_ascending(self):
        self.check([("m", ["z", "b", "n", "a"]), ("z", ["c"]), ("a", ["y"])], ["a", "b", "c", "m", "n", "y", "z"])
        self.check([("b", ["ab", "abc", "a", "ba"])], ["a", "ab", "abc", "b", "ba"])

    def test_names_without_a_rule(self):
        self.check([("a", ["none"])], ["a", "none"])
        self.check([("a", ["b"]), ("b", ["K", "c"])], ["a", "b", "c"])

    def test_names_that_are_not_reached(self):
        self.check([("a", ["b"]), ("b", []), ("c", ["a", "d"]), ("d", ["c"])], ["a", "b"])
        self.check([("a", []), ("b", ["x"])], ["a"])

    def test_all_rules_of_a_name_count(self):
        self.check([("a", []), ("b", ["c"]), ("a", ["b"]), ("b", ["d"])], ["a", "b", "c", "d"])

    def test_names_that_derive_nothing_count(self):
        self.check([("a", ["b"]), ("b", ["b", "c"]), ("c", ["c"])], ["a", "b", "c"])

    def test_each_name_once(self):
        self.check([("a", ["b", "b", "a"]), ("b", ["a", "b"])], ["a", "b"])

    def test_no_kinds(self):
        self.check([("a", ["A", "b", "B"]), ("b", ["C"])], ["a", "b"])

    def test_a_long_chain(self):
        names = "xwvutsrqponmlkjihgfedcba"
        grammar = [(names[k], [names[k + 1]]) for k in range(23)] + [("a", [])]
        self.check(grammar, sorted(names))
        # The rules of the chain from its end to its start, behind that of the start.
        self.check(grammar[:1] + grammar[:0:-1], sorted(names))


class Check(unittest.TestCase):
    def check_sound(self, grammar, kinds):
        self.assertIsNone(check_grammar(grammar, kinds))

    def check_fault(self, grammar, kinds, error, at):
        with self.assertRaises(MendError) as caught:
            check_grammar(grammar, kinds)
        self.assertIs(caught.exception.__class__, error)
        self.assertEqual(caught.exception.at, at)

    def test_sound(self):
        self.check_sound(LISTS, ["OPEN", "CLOSE"])
        self.check_sound(LISTS, ["CLOSE", "OPEN", "NUMBER"])
        self.check_sound([("a", [])], [])
        self.check_sound([("a", ["a"]), ("a", [])], [])
        self.check_sound([("a", ["b", "K"]), ("b", ["b", "b"]), ("b", ["K"])], ["K"])

    def test_unknown_kinds(self):
        self.check_fault(LISTS, ["OPEN"], UnknownSymbol, 0)
        self.check_fault(LISTS, [], UnknownSymbol, 0)
        self.check_fault([("a", ["K"]), ("a", ["L"])], ["K"], UnknownSymbol, 1)
        self.check_fault([("a", ["K", "K", "L"])], ["K"], UnknownSymbol, 0)
        self.check_fault([("a", ["K", "OTHERS"])], ["K", "OTHER"], UnknownSymbol, 0)

    def test_unknown_names(self):
        self.check_fault([("a", ["K"]), ("a", ["b"])], ["K"], UnknownSymbol, 1)
        self.check_fault([("a", []), ("a", ["a", "aa"])], ["A"], UnknownSymbol, 1)
        self.check_sound([("a", []), ("a", ["b"]), ("b", [])], [])

    def test_no_row(self):
        self.check_fault([("a", ["a"])], [], NoRow, 0)
        self.check_fault([("a", ["b"]), ("a", []), ("b", ["b", "K"])], ["K"], NoRow, 2)
        self.check_fault([("a", ["b"]), ("b", ["c", "K"]), ("c", ["b"])], ["K"], NoRow, 0)

    def test_a_rule_that_cannot_be_used_of_a_name_that_derives_a_row(self):
        self.check_fault([("a", ["b"]), ("a", []), ("b", ["b"])], [], NoRow, 2)
        self.check_sound([("a", ["a", "a"]), ("a", ["b", "a"]), ("a", []), ("b", ["a"])], [])

    def test_a_row_that_is_found_late(self):
        names = "abcdefghijklmnopqrstuvwx"
        self.check_sound([(names[k], [names[k + 1]]) for k in range(23)] + [("x", [])], [])
        self.check_fault([(names[k], [names[k + 1]]) for k in range(23)] + [("x", ["x"])], [], NoRow, 0)

    def test_a_long_row_is_a_row(self):
        self.check_sound([("more", ["sixty", "A"])] + SIXTY, ["A", "B", "C", "D"])
        self.check_sound(HUGE, ["K"])

    def test_not_reached(self):
        self.check_fault([("a", []), ("b", [])], [], NotReached, 1)
        self.check_fault([("a", []), ("a", ["K"]), ("b", ["a", "b"]), ("b", [])], ["K"], NotReached, 2)
        self.check_fault([("a", ["b"]), ("b", []), ("d", ["c"]), ("c", ["d"]), ("c", [])], [], NotReached, 2)

    def test_the_first_rule_with_a_fault_counts(self):
        self.check_fault([("a", []), ("a", ["X"]), ("a", ["y"]), ("a", ["Z"])], [], UnknownSymbol, 1)
        self.check_fault([("a", ["b", "c"]), ("a", []), ("c", ["c"]), ("b", ["b"])], [], NoRow, 2)
        self.check_fault([("a", []), ("c", []), ("b", [])], [], NotReached, 1)

    def test_each_test_is_made_for_all_rules_before_the_next_one(self):
        # Rule 0 derives no row and rule 1 is not reached, but rule 2 has an unknown symbol.
        grammar = [("a", ["a"]), ("b", []), ("b", ["X"])]
        self.check_fault(grammar, [], UnknownSymbol, 2)
        self.check_fault(grammar, ["X"], NoRow, 0)
        # Rule 1 is not reached, but rule 2 derives no row.
        grammar = [("a", []), ("b", []), ("c", ["c"])]
        self.check_fault(grammar, [], NoRow, 2)
        self.check_fault(grammar[:2], [], NotReached, 1)
        self.check_fault(grammar + [("a", ["x"])], [], UnknownSymbol, 3)

    def test_one_rule_with_all_faults(self):
        self.check_fault([("a", []), ("b", ["b", "X"])], [], UnknownSymbol, 1)
        self.check_fault([("a", []), ("b", ["b", "X"])], ["X"], NoRow, 1)
        self.check_fault([("a", []), ("b", ["b", "X"]), ("b", [])], ["X"], NotReached, 1)

    def test_only_the_kinds_of_the_list_are_known(self):
        # Kinds that are not in the grammar play no part.
        self.check_sound([("a", ["A"])], ["B", "A", "C"])
        self.check_fault([("a", ["A"])], ["B", "C"], UnknownSymbol, 0)


class NothingIsModified(unittest.TestCase):
    def test_arguments(self):
        kinds = ["OPEN", "CLOSE"]
        grammar = copy.deepcopy(LISTS)
        shortest_rows(grammar)
        reached_names(grammar)
        check_grammar(grammar, kinds)
        self.assertEqual(grammar, LISTS)
        self.assertEqual(kinds, ["OPEN", "CLOSE"])

    def test_arguments_of_a_call_that_raises_an_error(self):
        for kinds, grammar in [([], [("a", ["b"])]), (["K"], [("a", ["a", "K"])]), (["K"], [("a", ["K"]), ("b", [])])]:
            kept = copy.deepcopy((kinds, grammar))
            with self.assertRaises(MendError):
                check_grammar(grammar, kinds)
            self.assertEqual((kinds, grammar), kept)

    def test_what_is_returned_is_new(self):
        grammar = copy.deepcopy(LISTS)
        rows = shortest_rows(grammar)
        rows["list"].append("X")
        rows["items"].append("X")
        rows["none"] = []
        names = reached_names(grammar)
        names.clear()
        self.assertEqual(shortest_rows(grammar), {"list": ["OPEN", "CLOSE"], "items": []})
        self.assertEqual(reached_names(grammar), ["items", "list"])
        self.assertEqual(grammar, LISTS)

    def test_a_row_is_not_the_list_of_a_rule(self):
        grammar = [("a", ["A", "B"])]
        shortest_rows(grammar)["a"].append("X")
        self.assertEqual(grammar, [("a", ["A", "B"])])

    def test_the_rows_of_two_names_are_two_lists(self):
        rows = shortest_rows([("a", ["b"]), ("b", ["c"]), ("c", ["C"])])
        rows["c"].append("X")
        rows["b"].append("Y")
        self.assertEqual(rows, {"a": ["C"], "b": ["C", "Y"], "c": ["C", "X"]})


if __name__ == "__main__":
    unittest.main()
