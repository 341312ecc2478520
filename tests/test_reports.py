"""[22], [2] and the function reports of the section owedanswers/runs.py."""

import unittest
from random import Random
from time import monotonic

from owedanswers.functions import Function
from owedanswers.runs import Walk, reports
from tests.oracle import CALM, all_runs, some_functions

SECONDS = 20


def of(rows, **lengths):
    return reports(Function.of(*rows.split(", ")), lengths)


def enumerated(function, lengths):
    """The reports of all runs, which are done one by one; None if there are very many."""
    found, many = set(), 0
    for oracle in all_runs(function.rows, lengths):
        many += 1
        if many > 300:
            return None
        if oracle.report() is not None:
            found.add(oracle.report())
    return sorted(found)


def merged(function, lengths):
    """The reports of all runs, where runs with the same future are done once."""
    ahead, found, met = [Walk(function, lengths)], set(), set()
    while ahead:
        walk = ahead.pop()
        place = (walk.spot, walk.done(), walk.mark, walk.owed, walk.asked, walk.taken, walk.fault)
        if place in met:
            continue
        met.add(place)
        if walk.report is not None:
            found.add(walk.report)
        for move in walk.choices():
            copy = walk.copy()
            copy.step(move)
            ahead.append(copy)
    return sorted(found)


class ReportsTest(unittest.TestCase):

    def test_defined_in_this_file(self):
        self.assertEqual(reports.__module__, "owedanswers.runs")

    def test_example(self):
        function = Function.of("each a", "ask", "end", "each a", "read", "end")
        expected = [("cut", 2, 0), ("cut", 2, 1), ("end", 2, 2)]
        self.assertEqual(reports(function, {"a": 2}), expected)
        self.assertEqual(reports(lengths={"a": 2}, function=function), expected)
        self.assertEqual(reports(function, {"a": 0}), [("end", 0, 0)])

    def test_small_ones(self):
        cases = [
            ("ask", [("end", 1, 0)]), ("ask, return", [("end", 1, 0)]), ("check", [("end", 0, 0), ("fail", 0, 0)]),
            ("pause", [("cut", 0, 0), ("end", 0, 0)]), ("shield, pause, end", [("end", 0, 0)]),
            ("try, finally, end", [("end", 0, 0)]), ("begin", [("end", 0, 0)]), ("shield, read, end", []),
            ("begin, finish", [("cut", 0, 0), ("end", 1, 0)]), ("read", [("cut", 0, 0)]),
            ("ask, head, body", [("cut", 1, 0), ("end", 1, 1)]), ("maybe, ask, end", [("end", 0, 0), ("end", 1, 0)]),
            ("maybe, return, else, ask, end", [("end", 0, 0), ("end", 1, 0)]), ("ask, ask, close", [("end", 2, 0)]),
            ("ask, drain, ask, read", [("cut", 2, 0), ("end", 2, 1)]), ("ask, begin, ask", []), ("ask, retry 2, end", []),
            ("retry 3, ask, shield, read, end, check, end",
             [("end", 1, 1), ("end", 2, 2), ("end", 3, 3), ("fail", 3, 3)]),
            ("try, pause, rescue, ask, check, end", [("cut", 1, 0), ("end", 0, 0), ("fail", 1, 0)]),
            ("close, ask", []), ("maybe, close, end, pause", [("cut", 0, 0), ("end", 0, 0)]),
        ]
        for rows, expected in cases:
            self.assertEqual(of(rows), expected, rows)

    def test_runs_with_an_inner_fault_are_left_out(self):
        self.assertEqual(of("maybe, ask, else, body, end"), [("cut", 0, 0), ("end", 1, 0)])
        self.assertEqual(of("maybe, ask, else, shield, body, end, end"), [("end", 1, 0)])
        self.assertEqual(of("each a, ask, end, each b, read, end", a=1, b=3), [("cut", 1, 0), ("cut", 1, 1)])
        self.assertEqual(of("retry 2, maybe, ask, end, check, end"),
                         [("end", 0, 0), ("end", 1, 0), ("fail", 0, 0), ("fail", 1, 0)])

    def test_lengths(self):
        rows = "each b, ask, end, each a, shield, read, end, end"
        self.assertEqual(of(rows), [("end", 0, 0)])
        self.assertEqual(of(rows, b=3), [("end", 3, 0)])
        self.assertEqual(of(rows, b=3, a=2, c=99, zzz=1), [("end", 3, 2)])
        lengths = {"b": 3, "c": 1}
        reports(Function.of(*rows.split(", ")), lengths)
        self.assertEqual(lengths, {"b": 3, "c": 1})

    def test_result_is_new(self):
        function = Function("pause")
        found = reports(function, {})
        self.assertEqual((found.__class__, found[0].__class__), (list, tuple))
        found.clear()
        self.assertEqual(reports(function, {}), [("cut", 0, 0), ("end", 0, 0)])

    def test_as_all_runs_one_by_one(self):
        chance = Random(6)
        many = 0
        for function in some_functions(51, 200) + some_functions(52, 200, CALM):
            lengths = {"a": chance.randint(0, 2), "b": chance.randint(0, 2)}
            expected = enumerated(function, lengths)
            if expected is not None:
                many += 1
                self.assertEqual(reports(function, lengths), expected, (function.rows, lengths))
        self.assertGreater(many, 350)

    def test_as_runs_merged(self):
        functions = [
            "each a, retry 2, try, ask, maybe, ask, end, read, check, rescue, drain, end, end, end",
            "each a, maybe, ask, end, end, each a, maybe, head, body, end, end, drain, each b, ask, pause, end",
            "try, each a, maybe, ask, end, pause, end, finally, each b, maybe, read, end, end, end",
            "retry 3, try, each a, maybe, ask, else, begin, finish, end, check, end, rescue, drain, end, drain, end",
            "each a, maybe, ask, else, ask, ask, end, end, try, each a, head, body, end, rescue, maybe, close, end, end",
            "retry 2, retry 2, each a, maybe, ask, ask, end, end, drain, check, end, maybe, ask, end, each b, read, end, drain, end",
        ]
        for rows in functions:
            function = Function.of(*rows.split(", "))
            for lengths in ({"a": 3, "b": 2}, {"a": 2, "b": 4}, {"a": 1}):
                self.assertEqual(reports(function, lengths), merged(function, lengths), (rows, lengths))

    def test_far_more_runs_than_reports(self):
        begun = monotonic()
        maybe = "maybe, ask, end, "
        found = of("each a, " + maybe * 6 + "end", a=12)
        self.assertEqual(found, [("end", many, 0) for many in range(73)])
        found = of("each a, " + maybe * 3 + "maybe, pause, end, end", a=12)
        self.assertEqual(found, [("cut", many, 0) for many in range(37)] + [("end", many, 0) for many in range(37)])
        found = of("each a, maybe, ask, end, end, each b, maybe, shield, read, end, end, end", a=6, b=6)
        self.assertEqual(found, [("end", asked, read) for asked in range(7) for read in range(asked + 1)])
        found = of("each a, retry 3, retry 3, try, ask, check, rescue, maybe, ask, end, drain, end, end, end, end", a=1)
        self.assertEqual(found, [("end", many, 0) for many in range(1, 18)] + [("fail", many, 0) for many in range(9, 19)])
        self.assertLess(monotonic() - begun, SECONDS)

    def test_many_reports(self):
        begun = monotonic()
        rows = "retry 3, retry 3, try, each a, maybe, ask, end, maybe, ask, end, ask, maybe, read, end, end, check, " \
               "finally, drain, end, end, end"
        found = of(rows, a=12)
        self.assertGreater(len(found), 10000)
        self.assertEqual((found, len(found)), (sorted(found), len(set(found))))
        rows = "try, each a, maybe, ask, end, pause, end, finally, each b, maybe, read, end, end, each c, ask, pause, end, end"
        found = of(rows, a=4, b=4, c=4)
        self.assertEqual(found, merged(Function.of(*rows.split(", ")), {"a": 4, "b": 4, "c": 4}))
        self.assertLess(monotonic() - begun, SECONDS)


if __name__ == "__main__":
    unittest.main()
