"""[30] and the section owedanswers/comparing.py, held against the sets of reports."""

import unittest
from itertools import product
from random import Random

from owedanswers.comparing import first_parted, parted
from owedanswers.functions import Function
from owedanswers.runs import Walk, reports
from tests.makers import function, likely_functions

AHEAD = "each a, ask, end, each a, read, end"
PAIRS = [
    (AHEAD, "each a, ask, read, end"), (AHEAD, AHEAD), ("ask", "begin, finish"), ("ask, read", "ask, head, body"),
    ("ask, shield, read, end", "ask, shield, head, body, end"), ("pause", "check"), ("ask, drain", "ask, close"), ("read", "body"),
    ("each a, ask, end", "each b, ask, end"), ("each a, end", "pause, drain"),
    ("each a, ask, end, each b, ask, end", "each b, ask, end, each a, ask, end"),
    ("each a, ask, end, each b, ask, end", "each c, ask, end"), ("each a, ask, end, each a, ask, end", "each a, ask, ask, end"),
    ("each a, maybe, ask, end, end", "each a, ask, end"), ("each a, end", "maybe, end"), ("ask", "ask, ask"),
    ("each a, ask, end, maybe, read, end", "each a, ask, end, maybe, body, end"), ("try, finally, end", "drain"),
    ("each zz, return, end, ask", "ask"), ("retry 2, check, end", "check"), ("retry 2, ask, check, end", "ask, check"),
    ("each a, maybe, ask, end, end, each b, ask, ask, end", "each b, maybe, ask, end, end, each c, ask, ask, end"),
    ("maybe, ask, ask, end, check", "maybe, ask, ask, check, else, check, end"), ("maybe, ask, check, end", "maybe, ask, end, check"),
]


def all_reports(given, lengths):
    """The reports of all runs; runs that asked or read other numbers are told apart."""
    found = set()
    seen = set()
    ahead = [Walk(given, lengths)]
    while ahead:
        walk = ahead.pop()
        key = (walk.spot, walk.mark, walk.owed, walk.done(), walk.asked, walk.taken)
        if key in seen or walk.fault is not None:
            continue
        seen.add(key)
        if walk.is_over:
            found.add(walk.report)
        for move in walk.choices():
            further = walk.copy()
            further.step(move)
            ahead.append(further)
    return found


def expected(one, other, lengths):
    """The least report that only one of two has, by sets."""
    ones, others = set(reports(one, lengths)), set(reports(other, lengths))
    if ones == others:
        return None
    least = min(ones ^ others)
    return (least, 0 if least in ones else 1)


class PartedTest(unittest.TestCase):

    def assert_parted(self, one, other, lengths):
        found = parted(one, other, lengths)
        self.assertEqual(found, expected(one, other, lengths), (one.rows, other.rows, lengths))
        if found is not None:
            self.assertIs(type(found), tuple)
            self.assertEqual(parted(other, one, lengths), (found[0], 1 - found[1]))
        else:
            self.assertIsNone(parted(other, one, lengths))

    def test_pairs(self):
        for one, other in PAIRS:
            for sizes in product(range(4), repeat=3):
                self.assert_parted(function(one), function(other), dict(zip("abc", sizes)))

    def test_written_out(self):
        for one, other, lengths, found in (
                (AHEAD, "each a, ask, read, end", {"a": 2}, (("cut", 1, 0), 1)),
                (AHEAD, "each a, ask, read, end", {"a": 1}, None),
                (AHEAD, "each a, ask, read, end", {}, None),
                ("ask", "begin, finish", {}, (("cut", 0, 0), 1)),
                ("begin, finish", "ask", {}, (("cut", 0, 0), 0)),
                ("pause", "check", {}, (("cut", 0, 0), 0)),
                ("check", "pause", {}, (("cut", 0, 0), 1)),
                ("read", "body", {}, None)):
            self.assertEqual(parted(function(one), function(other), lengths), found, (one, other))

    def test_lists_that_one_does_not_have(self):
        one, other = function("each a, ask, end"), function("each b, ask, end")
        self.assertEqual(parted(one, other, {"a": 2}), (("end", 0, 0), 1))
        self.assertEqual(parted(one, other, {"b": 2}), (("end", 0, 0), 0))
        self.assertEqual(parted(one, other, {"a": 3, "b": 2}), (("end", 2, 0), 1))
        self.assertIsNone(parted(one, other, {"a": 2, "b": 2, "c": 7}))
        self.assertIsNone(parted(one, other, {"c": 7}))

    def test_large_sums(self):
        one = function("each a, maybe, ask, end, end, each b, maybe, ask, else, ask, ask, end, end, each c, pause, end, drain")
        other = function("each b, maybe, ask, ask, else, ask, end, end, each a, maybe, else, ask, end, end, each c, pause, end")
        for lengths in ({"a": 4, "b": 4, "c": 4}, {"a": 12}, {"b": 12}, {"c": 12}, {"a": 1, "b": 11}):
            self.assert_parted(one, other, lengths)
        ask = function("each a, ask, end, check")
        self.assert_parted(ask, function("each a, maybe, ask, else, ask, end, end, check"), {"a": 12})
        self.assertEqual(parted(ask, function("each a, ask, check, end, check"), {"a": 12}), (("fail", 1, 0), 1))

    def test_some_functions(self):
        chance = Random(38)
        given = likely_functions(38, 120)
        for one, other in zip(given, given[1:]):
            lengths = {name: chance.randint(0, 3) for name in "ab"}
            self.assert_parted(one, other, lengths)
            self.assertEqual(set(reports(one, lengths)), all_reports(one, lengths))

    def test_nothing_is_changed(self):
        lengths = {"a": 2, "q": 3}
        one, other = function(AHEAD), function("each a, ask, read, end")
        self.assertEqual(parted(lengths=lengths, other=one, one=other), (("cut", 1, 0), 0))
        self.assertEqual(first_parted(most=2, other=one, one=other), ((2,), ("cut", 1, 0), 0))
        self.assertEqual((lengths, one.rows), ({"a": 2, "q": 3}, tuple(AHEAD.split(", "))))
        self.assertEqual((parted.__module__, first_parted.__module__), ("owedanswers.comparing",) * 2)


class FirstPartedTest(unittest.TestCase):

    def assert_first(self, one, other, most):
        names = sorted(set(one.lists) | set(other.lists))
        sizes = [size for size in product(range(most + 1), repeat=len(names)) if sum(size) <= most]
        found = None
        for size in sorted(sizes, key=lambda lengths: (sum(lengths), lengths)):
            report = expected(one, other, dict(zip(names, size)))
            if report is not None:
                found = (size, *report)
                break
        self.assertEqual(first_parted(one, other, most), found, (one.rows, other.rows, most))
        return found

    def test_example(self):
        self.assertEqual(first_parted(function(AHEAD), function("each a, ask, read, end"), 2), ((2,), ("cut", 1, 0), 1))
        self.assertIsNone(first_parted(function(AHEAD), function("each a, ask, read, end"), 1))

    def test_pairs(self):
        for one, other in PAIRS:
            for most in range(5):
                self.assert_first(function(one), function(other), most)
                self.assert_first(function(other), function(one), most)

    def test_order_of_lengths(self):
        one, other = function("each a, ask, end, each c, ask, end"), function("each b, ask, end")
        self.assertEqual(first_parted(one, other, 4), ((0, 0, 1), ("end", 0, 0), 1))
        one = function("each a, ask, end, each b, end")
        self.assertEqual(first_parted(one, function("each b, end"), 4), ((1, 0), ("end", 0, 0), 1))
        self.assertIsNone(first_parted(one, function("each b, end"), 0))
        twice = function("each a, end, each b, ask, end, each c, maybe, return, end, end")
        self.assertEqual(first_parted(twice, function("each b, ask, maybe, return, end, end"), 4),
                         ((0, 2, 0), ("end", 1, 0), 1))

    def test_the_least_sum_before_the_least_tuple(self):
        one = function("each a, check, end, each b, ask, end, each b, read, end")
        other = function("each b, ask, read, end")
        self.assertEqual(parted(one, other, {"b": 2}), (("cut", 1, 0), 1))
        self.assertEqual(first_parted(one, other, 4), ((1, 0), ("fail", 0, 0), 0))
        self.assertEqual(first_parted(other, one, 4), ((1, 0), ("fail", 0, 0), 1))

    def test_sums_up_to_most(self):
        one = function("each a, ask, end, each b, check, end")
        other = function("each b, check, end, each a, ask, end")
        for most in (0, 1):
            self.assertIsNone(first_parted(one, other, most))
        for most in (2, 3, 4):
            self.assertEqual(first_parted(one, other, most), ((1, 1), ("fail", 0, 0), 1))
        one = function("each a, ask, end, each b, return, end, each c, check, end")
        other = function("each b, return, end, each a, ask, end, each c, check, end")
        self.assertEqual(first_parted(one, other, 4), ((1, 1, 0), ("end", 0, 0), 1))
        self.assertIsNone(first_parted(one, other, 1))

    def test_without_lists(self):
        self.assertEqual(first_parted(Function.of("ask"), Function.of("ask", "ask"), 0), ((), ("end", 1, 0), 0))
        self.assertEqual(first_parted(Function.of("ask"), Function.of("ask", "ask"), 4), ((), ("end", 1, 0), 0))
        self.assertIsNone(first_parted(Function.of("ask"), Function.of("ask", "drain"), 4))

    def test_some_functions(self):
        given = likely_functions(39, 60)
        for one, other in zip(given, given[1:]):
            self.assert_first(one, other, 3)
            self.assertIsNone(self.assert_first(one, one, 2))


if __name__ == "__main__":
    unittest.main()
