"""[24] and the section owedanswers/tables.py, held against all runs with small lengths."""

import unittest
from itertools import product

from owedanswers.errors import Faulty
from owedanswers.forms import Domain, Form
from owedanswers.functions import Function
from owedanswers.looker import is_certificate
from owedanswers.pools import Door
from owedanswers.runs import Walk
from owedanswers.tables import Table, account, domain_of
from tests.checker import Checker
from tests.makers import function, likely_functions
from tests.states import all_lengths, fewest_steps, states
from tests.test_walks_again import DEEP

HUGE = 10 ** 60 - 1
CLOSING = Door(end="close", fail="close", cut="close")
SPOT = (0, (), ())
NO_SPOTS = [None, True, False, 0, 1, -1, "", "any", (), [], {}, (0,), (0, ()), [0, (), ()], (0, [], ()), (0, (), []),
            (False, (), ()), (0, (), (), ()), ("0", (), ()), (0, (1,), ()), (0, (), ((),)), (0, (), (("cut", 0),)),
            (None, (), ()), ({}, (), ()), (0, {}, {}), (0, ((),), ()), (0, (), (["cut", 0],)), (0, (), ("cut", 0)),
            (HUGE, (), ()), (0, (HUGE,), ()), (0, (), (("cut", True),)), ((((((((0,),),),),),),),), (SPOT, SPOT, SPOT),
            {SPOT: SPOT}, [SPOT], (SPOT,), "~" * 2000, [[[[[[[[0] * 9] * 9]]]]]], (0, (), (((), 0),)), (0, (True,), ())]

SOME = [
    "each a, ask, end, each a, read, end",
    "each a, ask, end, pause",
    "each a, end, pause",
    "each a, pause, return, end, pause",
    "each a, ask, return, end",
    "each ab, maybe, ask, else, ask, ask, ask, end, end, pause, drain",
    "maybe, each a, ask, end, else, ask, ask, end, pause",
    "maybe, each a, ask, end, else, ask, end, maybe, each b, ask, end, else, ask, end, each c, pause, ask, end",
    "maybe, each b, ask, end, else, ask, ask, ask, end, each a, maybe, ask, ask, ask, end, pause, end",
    "maybe, each b, ask, end, else, ask, ask, ask, end, maybe, ask, ask, ask, end, each a, pause, ask, end",
    "ask, ask, ask, maybe, each b, ask, end, else, ask, end, drain, each a, ask, maybe, read, end, pause, end",
    "each a, ask, try, pause, finally, pause, end, end, close",
    "try, each a, ask, pause, end, finally, each a, pause, ask, end, end",
    "try, each b, ask, pause, end, finally, each a, ask, pause, end, each b, ask, end, end, pause",
    "try, each a, pause, end, finally, try, each a, ask, pause, end, finally, each a, ask, ask, pause, end, end, end",
    "each a, ask, read, retry 2, end, end",
    "each a, retry 3, try, ask, check, read, rescue, drain, end, end, pause, end",
    "ask, each a, read, retry 2, try, check, ask, read, rescue, drain, end, end, pause, ask, end, pause",
    "retry 2, try, check, each a, ask, end, each a, read, end, rescue, drain, end, end, pause",
    "retry 2, try, each a, pause, check, end, each a, pause, end, rescue, close, end, end",
    "try, each a, begin, pause, finish, end, rescue, pause, close, pause, end, each a, head, pause, body, end",
    "begin, each a, pause, end, finish, head, each a, check, end, body",
    "try, ask, each a, try, head, check, rescue, close, end, body, ask, end, finally, pause, end, read",
    "ask, ask, ask, each a, pause, ask, end, try, each b, maybe, ask, end, check, end, rescue, drain, each c, ask, end, pause"
    ", end",
    "maybe, close, end, each a, pause, check, end",
    "each x, maybe, return, end, ask, end, pause",
    "each a, maybe, ask, return, end, check, end",
    "maybe, ask, end, maybe, ask, ask, end, maybe, each a, ask, end, end, maybe, each a, ask, ask, end, end, pause",
    "maybe, each b, ask, end, maybe, ask, ask, ask, end, else, ask, ask, ask, each b, maybe, ask, end, end, end, each a, end"
    ", pause",
    "maybe, each b, maybe, ask, end, end, else, maybe, ask, ask, ask, end, end, each a, end, pause",
    "ask, maybe, ask, end, maybe, read, end, pause, drain",
    "ask, ask, maybe, read, else, ask, end, maybe, ask, else, read, end, pause, drain",
    "maybe, begin, end, pause",
    "maybe, each a, maybe, ask, end, end, ask, else, each b, maybe, ask, end, end, ask, end, each c, end, pause",
    "maybe, each a, ask, end, each b, maybe, ask, end, end, check, else, each b, ask, end, each a, maybe, ask, end, end, check"
    ", end, each c, end, pause",
    "maybe, each a, ask, end, else, maybe, ask, ask, ask, else, ask, ask, ask, ask, end, end, pause",
    "retry 2, each a, check, end, check, end",
    "retry 2, check, each a, check, end, end, each a, pause, end",
    "each a, pause, retry 3, try, ask, check, read, rescue, drain, end, end, pause, end",
    "each a, retry 2, retry 2, try, ask, check, read, rescue, drain, end, end, end, pause, end, pause",
    "ask, ask, each a, read, read, retry 2, try, ask, ask, check, read, read, rescue, drain, end, end, ask, ask, end, drain",
    "each a, maybe, retry 2, try, ask, check, read, rescue, drain, end, end, else, ask, pause, read, end, pause, end",
    "each a, maybe, ask, end, maybe, ask, end, pause, end",
    "each a, ask, ask, maybe, read, end, maybe, read, end, pause, end",
    "each a, ask, ask, maybe, read, else, ask, end, maybe, ask, else, read, end, pause, end",
    "each a, ask, ask, maybe, read, else, ask, end, maybe, pause, end, maybe, ask, ask, else, read, end, pause, end",
    "try, pause, finally, end",
    "try, finally, end",
    "shield, pause, end",
    "retry 2, retry 3, check, end, check, end",
]
HEAVY = [
    "try, pause, check, pause, finally, try, pause, check, pause, finally, try, pause, check, pause, finally, retry 3"
    ", retry 3, check, pause, end, end, end, end, end",
    "try, each a, pause, end, finally, try, each b, pause, end, finally, try, each c, pause, end, finally, each a, pause, end"
    ", pause, end, end, ask, pause, end",
    "maybe, each a, ask, end, else, ask, end, maybe, each b, ask, end, else, ask, end, maybe, each c, ask, end, else, ask, end"
    ", pause, drain, pause",
    "each a, end, each b, end, each c, end, each a, end, each b, end, each c, end, each a, end, each b, end, each c, end, each a"
    ", end, each b, end, each c, end",
    "retry 3, retry 3, maybe, check, pause, else, pause, check, end, maybe, check, end, pause, each a, pause, end, check, end"
    ", end, retry 3, check, end, pause, pause",
]
FAULTY = {
    "read": "starved", "body": "amid", "ask, close, read": "closed", "ask, retry 2, end": "stale",
    "each a, read, end": "starved", "each a, begin, end": "amid", "ask, each a, head, end": "amid",
    "ask, ask, each a, read, end": "starved", "each a, ask, end, each b, read, end": "starved",
    "each a, ask, end, each a, read, read, end": "starved", "each a, ask, end, each a, read, maybe, read, end, end": "starved",
    "ask, ask, ask, ask, ask, each a, maybe, read, end, end": "starved", "each a, ask, retry 1, end, end": "stale",
    "each a, retry 1, end, ask, end": "stale", "each a, retry 1, end, retry 1, end, ask, end": "stale", "retry 2, ask, check, end": "stale",
    "retry 2, try, check, rescue, close, end, ask, end": "closed", "retry 2, each a, ask, check, end, drain, end": "stale",
    "ask, each a, pause, end, maybe, each a, read, end, end": "starved",
    "each a, try, check, read, rescue, end, end": "starved", "each a, end, maybe, each a, read, end, else, body, end": "amid",
    "begin, each a, end, each b, finish, end": "amid", "ask, ask, head, each a, body, head, end, body, read": "starved",
    "try, each a, pause, end, finally, each a, read, end, end": "starved",
    "try, each a, pause, end, finally, each b, end, each a, read, end, end": "starved",
    "each a, end, maybe, return, end, each a, read, end": "starved", "each a, check, end, each a, ask, end, retry 1, end":
    "stale", "each a, ask, maybe, read, end, end, each a, read, end": "starved",
}


def value(form, values):
    return form[0] + sum(many * values[symbol] for symbol, many in form[1])


class TableCase(unittest.TestCase):

    def assert_exact(self, given, most):
        """Holds the table of a function against all runs with lengths up to most."""
        table = account(given)
        reached = {}
        for lengths in all_lengths(given, most):
            found, faulty = states(given, lengths)
            self.assertEqual(faulty, [], given.rows)
            owed = {}
            for spot, mark, many, done in found:
                owed.setdefault((spot, mark, done), set()).add(many)
                reached.setdefault(spot, {}).setdefault(tuple(lengths.items()), set()).add(many)
            self.assert_between(given, table, lengths, owed)
            self.assert_attained(given, table, lengths, owed)
        self.assertEqual(table.spots(), sorted(reached), given.rows)
        self.assert_bounds(given, table, reached, most)
        return table

    def assert_between(self, given, table, lengths, owed):
        for (spot, mark, done), numbers in owed.items():
            values = {**lengths, **{f"r{row}": many for row, many in done}}
            fitting = [entry for entry in table.entries(spot) if entry[1] == mark and values in domain_of(given, entry)]
            for many in numbers:
                self.assertTrue([entry for entry in fitting if value(entry[4], values) <= many <= value(entry[5], values)],
                                (given.rows, spot, mark, values, many))

    def assert_attained(self, given, table, lengths, owed):
        for entry in table.paper():
            spot, mark, _, rounds, low, high = entry
            for done in product(range(max(lengths.values(), default=0)), repeat=len(rounds)):
                pairs = tuple((row, many) for (row, _), many in zip(rounds, done))
                values = {**lengths, **{f"r{row}": many for row, many in pairs}}
                if values in domain_of(given, entry):
                    numbers = owed.get((spot, mark, pairs), set())
                    self.assertLessEqual({value(low, values), value(high, values)}, numbers, (given.rows, entry, values))

    def assert_bounds(self, given, table, reached, most):
        for spot, by_lengths in reached.items():
            for lengths in all_lengths(given, most):
                numbers = by_lengths.get(tuple(lengths.items()))
                expected = None if numbers is None else (min(numbers), max(numbers))
                self.assertEqual(table.bounds(spot, lengths), expected, (given.rows, spot, lengths))

    def assert_written(self, given):
        """Holds the entries against [24] as it says how they are written, and against [26] and [27]."""
        table = account(given)
        checker = Checker(given, CLOSING)
        paper = table.paper()
        self.assertIs(type(paper), tuple)
        self.assertTrue(checker.are_right(paper), given.rows)
        self.assertTrue(is_certificate(given, CLOSING, ("sound", paper)), given.rows)
        self.assertEqual(sorted(map(repr, paper)), sorted(repr(e) for spot in table.spots() for e in table.entries(spot)))
        self.assertEqual(len(table), len(paper))
        for entry in paper:
            self.assertIn(entry[0], table)
            self.assert_domain(given, entry)

    def assert_domain(self, given, entry):
        domain = domain_of(given, entry)
        rounds = [(f"r{row}", given.rows[row].split()[1], word) for row, word in entry[3]]
        lengths = dict(zip(given.lists, entry[2]))
        self.assertIsInstance(domain, Domain)
        self.assertEqual(domain.symbols(), sorted(list(lengths) + [symbol for symbol, _, _ in rounds]))
        self.assertLessEqual({symbol for form in entry[4:] for symbol, _ in form[1]}, set(domain.symbols()))
        for sizes in product(range(3), repeat=len(lengths)):
            values = dict(zip(lengths, sizes))
            for done in product(range(2), repeat=len(rounds)):
                values.update({symbol: many for (symbol, _, _), many in zip(rounds, done)})
                fits = ([{"any": size >= 0, "none": size == 0, "some": size > 0}[lengths[name]]
                         for name, size in zip(lengths, sizes)]
                        + [values[symbol] < (values[name] if word == "any" else 1) for symbol, name, word in rounds])
                self.assertIs(values in domain, all(fits))

    def assert_faulty(self, given, kind=None, most=3):
        with self.assertRaises(Faulty) as caught:
            account(given)
        error = caught.exception
        self.assertIs(type(error.lengths), tuple)
        self.assertIs(type(error.moves), tuple)
        walk = Walk(given, dict(zip(given.lists, error.lengths)))
        for at, (row, move) in enumerate(error.moves):
            self.assertEqual(walk.spot[0], row)
            self.assertIs(walk.step(move), at + 1 < len(error.moves))
        self.assertEqual(walk.fault, error.kind)
        if kind is not None:
            self.assertEqual(error.kind, kind, given.rows)
        if most is not None:
            self.assertEqual(len(error.moves), fewest_steps(given, None, most), given.rows)
        return error


class ExactTest(TableCase):

    def test_written_out(self):
        for text in SOME:
            given = function(text)
            self.assert_exact(given, 4 if len(given.lists) < 2 else 3 if len(given.lists) < 3 else 2)
            self.assert_written(given)

    def test_deep(self):
        for text in DEEP:
            given = function(text) if isinstance(text, str) else Function.of(*text)
            try:
                account(given)
            except Faulty:
                continue
            self.assert_exact(given, 2)
            self.assert_written(given)

    def test_some_functions(self):
        many = 0
        for given in likely_functions(24, 260):
            try:
                account(given)
            except Faulty:
                continue
            self.assert_exact(given, 3 if len(given) < 18 else 2)
            self.assert_written(given)
            many += 1
        self.assertGreater(many, 150)

    def test_functions_of_24_rows(self):
        for text in HEAVY:
            given = function(text)
            self.assertEqual(len(given), 24)
            table = account(given)
            self.assertTrue(is_certificate(given, CLOSING, ("sound", table.paper())))
            found, _ = states(given, dict.fromkeys(given.lists, 1))
            for spot, mark, many, _ in found:
                low, high = table.bounds(spot, dict.fromkeys(given.lists, 1))
                self.assertTrue(low <= many <= high)
                self.assertIn(mark, [entry[1] for entry in table.entries(spot)])


class EntriesTest(TableCase):

    def test_example(self):
        given = function("each a, ask, end, each a, read, end")
        table = account(given)
        for entry in (
                ((2, (), ()), "whole", ("some",), ((0, "any"),), (1, (("r0", 1),)), (1, (("r0", 1),))),
                ((3, (), ()), "whole", ("any",), (), (0, (("a", 1),)), (0, (("a", 1),))),
                ((4, (), ()), "whole", ("some",), ((3, "any"),), (0, (("a", 1), ("r3", -1))),
                 (0, (("a", 1), ("r3", -1)))),
                ((6, (), (("cut", 4),)), "whole", ("some",), ((3, "any"),), (0, (("a", 1), ("r3", -1))),
                 (0, (("a", 1), ("r3", -1))))):
            self.assertEqual(table.entries(entry[0]), [entry])

    def test_what_can_be_joined_is_joined(self):
        for text in ("each a, ask, end, each a, read, end", "each a, end, each b, maybe, ask, end, end, each a, pause, end",
                     "maybe, each a, ask, end, else, maybe, each a, ask, end, end, end",
                     "maybe, ask, ask, end, each a, maybe, ask, end, ask, end, each a, read, end, drain",
                     "retry 2, each a, check, end, check, end", "retry 2, check, each a, check, end, end"):
            table = account(function(text))
            self.assertEqual([len(table.entries(spot)) for spot in table.spots()], [1] * len(table), text)
        table = account(function("maybe, each a, ask, end, else, maybe, ask, ask, ask, else, ask, ask, ask, ask, end, end, pause"))
        self.assertEqual(len(table.entries((16, (), ()))), 2)

    def test_words(self):
        table = account(function("each a, return, end"))
        self.assertEqual(table.entries((1, (), ())), [((1, (), ()), "whole", ("some",), ((0, "first"),), (0, ()), (0, ()))])
        self.assertEqual(table.entries((3, (), ())), [((3, (), ()), "whole", ("none",), (), (0, ()), (0, ()))])
        self.assertEqual(table.spots(), [(0, (), ()), (1, (), ()), (3, (), ()), (3, (), (("return", 1),))])

    def test_two_forms_of_which_neither_is_always_the_greater(self):
        table = account(function("maybe, each a, ask, end, else, ask, ask, end, pause"))
        spot = (8, (), ())
        self.assertEqual([table.bounds(spot, {"a": size}) for size in (0, 1, 2, 3, HUGE)],
                         [(0, 2), (1, 2), (2, 2), (2, 3), (2, HUGE)])

    def test_closed(self):
        given = function("each a, ask, end, maybe, close, end, each a, pause, end")
        closed = [entry for entry in account(given).paper() if entry[1] == "closed"]
        self.assertEqual({entry[0][0] for entry in closed}, {6, 7, 8, 9})
        for entry in closed:
            self.assertEqual(entry[4:], ((0, ()), (0, ())))

    def test_domain_of(self):
        given = function("try, each b, ask, pause, end, finally, each a, pause, end, end")
        entry = ((7, (), (("cut", 3),)), "whole", ("some", "some"), ((1, "any"), (6, "first")), (0, ()), (0, ()))
        domain = domain_of(entry=entry, function=given)
        self.assertEqual(domain.symbols(), ["a", "b", "r1", "r6"])
        self.assertIn({"a": 2, "b": 3, "r1": 2, "r6": 0}, domain)
        self.assertNotIn({"a": 2, "b": 3, "r1": 2, "r6": 1}, domain)
        self.assertNotIn({"a": 3, "b": 2, "r1": 2, "r6": 0}, domain)
        self.assertEqual(domain.greatest(Form(0, r1=1, b=-1)), -1)
        given = function("each a, return, end, each b, end")
        self.assertIn({"a": 0, "b": 0}, domain_of(given, ((3, (), ()), "whole", ("none", "any"), (), (0, ()), (0, ()))))
        self.assertNotIn({"a": 1, "b": 0}, domain_of(given, ((3, (), ()), "whole", ("none", "any"), (), (0, ()), (0, ()))))


class BoundsTest(TableCase):

    def test_example(self):
        self.assertEqual(account(Function.of("each a", "ask", "end", "pause")).bounds((4, (), (("cut", 3),)), {"a": 7}),
                         (7, 7))

    def test_large_lengths(self):
        table = account(function("each a, ask, maybe, ask, end, pause, end, each b, ask, maybe, read, end, end, pause"))
        lengths = {"a": HUGE, "b": 1}
        self.assertEqual(table.bounds((13, (), ()), lengths), (HUGE, 2 * HUGE + 1))
        self.assertEqual(table.bounds((14, (), (("cut", 5),)), lengths), (1, 2 * HUGE))
        self.assertEqual(table.bounds((14, (), (("cut", 10),)), lengths), (HUGE + 1, 2 * HUGE + 1))
        self.assertEqual(table.bounds((5, (), ()), {"a": HUGE}), (1, 2 * HUGE))
        self.assertEqual(table.bounds((6, (), ()), {"a": HUGE}), (1, 2 * HUGE))
        self.assertEqual(table.bounds((1, (), ()), {"a": HUGE}), (0, 2 * HUGE - 2))

    def test_lengths_left_out_and_of_no_list(self):
        table = account(function("each a, ask, end, each b, ask, end, pause"))
        self.assertEqual(table.bounds(spot=(6, (), ()), lengths={"b": 3, "c": 8, "x1": 2, "": 1}), (3, 3))
        self.assertEqual(table.bounds((6, (), ()), {}), (0, 0))
        self.assertIsNone(table.bounds((1, (), ()), {"b": 5}))
        self.assertEqual(table.bounds((1, (), ()), {"a": 5}), (0, 4))
        self.assertIsNone(table.bounds((9, (), ()), {"a": 5}))

    def test_negative_slopes(self):
        table = account(function("each a, ask, ask, end, each a, pause, read, maybe, read, end, end"))
        self.assertEqual(table.bounds((5, (), ()), {"a": 9}), (2, 18))
        self.assertEqual(table.bounds((11, (), (("cut", 5),)), {"a": 9}), (2, 18))
        self.assertEqual(table.bounds((11, (), ()), {"a": 9}), (0, 9))

    def test_lengths_are_not_changed(self):
        lengths = {"a": 2, "c": 1}
        account(function("each a, ask, end")).bounds((3, (), ()), lengths)
        self.assertEqual(lengths, {"a": 2, "c": 1})


class AnyValueTest(TableCase):

    def test_any_value_as_the_spot(self):
        for text in ("ask, pause", "retry 1, pause, end, each a, pause, end"):
            table = account(function(text))
            for thing in NO_SPOTS:
                if thing == table.spots()[0] and repr(thing) == repr(table.spots()[0]):
                    continue
                self.assertIs(thing in table, False, thing)
                self.assertEqual(table.entries(thing), [])
                self.assertIsNone(table.bounds(thing, {"a": 1}))
            for spot in table.spots():
                self.assertIs(spot in table, True)
                for at in range(3):
                    wrong = list(spot)
                    wrong[at] = list(spot[at]) if at else True if spot[at] == 1 else str(spot[at])
                    self.assertNotIn(tuple(wrong), table)
                self.assertNotIn(list(spot), table)

    def test_true_is_not_1(self):
        table = account(function("retry 1, pause, end"))
        self.assertIn((1, (1,), ()), table)
        for spot in ((True, (1,), ()), (1, (True,), ()), (1, [1], ()), (1, (1,), [])):
            self.assertNotIn(spot, table)
            self.assertEqual(table.entries(spot=spot), [])

    def test_returned_values_are_new(self):
        table = account(function("each a, ask, end, pause"))
        spots, entries, paper = table.spots(), table.entries((3, (), ())), table.paper()
        table.spots().clear()
        table.entries((3, (), ())).append(7)
        table.entries((3, (), ())).clear()
        table.entries((9, (), ())).append(7)
        self.assertEqual((table.spots(), table.entries((3, (), ())), table.paper()), (spots, entries, paper))
        self.assertEqual(table.entries((9, (), ())), [])
        self.assertEqual((len(table), len(spots)), (len(paper), 6))

    def test_class(self):
        self.assertEqual((Table.__module__, account.__module__, domain_of.__module__), ("owedanswers.tables",) * 3)
        for name in ("spots", "entries", "paper", "bounds", "__len__", "__contains__"):
            self.assertIn(name, vars(Table))
        table = account(function=Function("ask"))
        self.assertIsInstance(table, Table)
        self.assertNotEqual(table, table.paper())
        self.assertNotEqual(table, account(Function("ask")).spots())


class FaultyTest(TableCase):

    def test_written_out(self):
        for text, kind in FAULTY.items():
            self.assert_faulty(function(text), kind, most=6 if "ask, ask, ask" in text else 3)
        # What is known of the lists when a cut leaves a loop.
        error = self.assert_faulty(function("try, each a, pause, end, finally, each b, end, each a, read, end, end"))
        self.assertEqual((error.lengths, len(error.moves)), ((1, 0), 5))

    def test_far_away(self):
        error = self.assert_faulty(Function.of(*["ask"] * 21, "each a", "read", "end"), "starved", most=None)
        self.assertEqual((error.lengths, len(error.moves)), ((22,), 65))
        given = function("each a, end, each b, end, each c, end, each a, end, each b, end, ask, ask, ask, ask, ask, ask, ask, ask"
                         ", ask, ask, ask, each c, read, end")
        error = self.assert_faulty(given, "starved", most=None)
        self.assertEqual((error.lengths, len(error.moves)), ((0, 0, 12), 52))

    def test_some_functions(self):
        many = 0
        for given in likely_functions(25, 300):
            try:
                account(given)
            except Faulty:
                self.assert_faulty(given, most=3 if len(given) < 15 else 2)
                many += 1
        self.assertGreater(many, 40)


if __name__ == "__main__":
    unittest.main()
