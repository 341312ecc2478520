"""[28] and the section owedanswers/prices.py, held against all runs with small lengths."""

import unittest
from random import Random

from owedanswers.errors import Faulty
from owedanswers.functions import Function
from owedanswers.pools import WORDS, Door, Pool
from owedanswers.prices import kinds, needless, thrown, ways
from owedanswers.runs import run
from owedanswers.tables import account
from tests.changes import ANY_VALUES, HUGE
from tests.makers import function, likely_functions
from tests.states import all_lengths, states
from tests.test_judging import single, some_doors
from tests.test_tables import FAULTY, HEAVY, SOME

NOTHING = (False, False, False)


def take(door, walk):
    """What take returns for the line of a run, by [14]."""
    word = door[walk.way]
    if walk.mark == "closed" or word in ("keep", "close", "check"):
        return 0
    if word == "drain":
        return walk.owed if walk.mark in ("whole", "in") else 0
    return walk.owed + 1 if walk.mark == "whole" else 0


class PricesCase(unittest.TestCase):

    def runs_by_lengths(self, given, most):
        return [(lengths, [walk for walk in states(given, lengths)[0].values() if walk.is_over])
                for lengths in all_lengths(given, most)]

    def assert_right(self, given, doors, most):
        by_lengths = self.runs_by_lengths(given, most)
        found = {}
        for _, walks in by_lengths:
            for walk in walks:
                clean, dirty, closed = found.get(walk.way, NOTHING)
                is_clean = walk.mark == "whole" and walk.owed == 0
                is_closed = walk.mark == "closed"
                found[walk.way] = (clean or is_clean, dirty or not (is_clean or is_closed), closed or is_closed)
        self.assertEqual(ways(given), sorted(found), given.rows)
        for way, expected in found.items():
            self.assertEqual(kinds(given, way), expected, (given.rows, way))
        for door in doors:
            expected = [(way, "sometimes" if dirty else "always") for way, (clean, dirty, _) in sorted(found.items())
                        if clean and door[way] == "close"]
            self.assertEqual(needless(given, door), expected, given.rows)
            for lengths, walks in by_lengths:
                self.assertEqual(thrown(given, door, lengths), max(take(door, walk) for walk in walks),
                                 (given.rows, lengths))

    def doors(self, chance):
        single_ways = single(Door(end="drain", fail="ping"), (("cut", chance.randrange(12)), "ping"), ((), "close"),
                             (("cut", chance.randrange(12)), "drain"), (("fail", chance.randrange(12)), "close"))
        return [Door(end=word, fail=word, cut=word) for word in WORDS] + [single_ways, some_doors(chance)]


class HeldAgainstRunsTest(PricesCase):

    def test_written_out(self):
        chance = Random(34)
        for text in SOME:
            given = function(text)
            self.assert_right(given, self.doors(chance), 3 if len(given.lists) < 3 else 2)

    def test_some_functions(self):
        chance = Random(35)
        many = 0
        for given in likely_functions(35, 200):
            try:
                account(given)
            except Faulty:
                continue
            self.assert_right(given, self.doors(chance), 3 if len(given) < 15 else 2)
            many += 1
        self.assertGreater(many, 120)

    def test_thrown_is_what_take_returns(self):
        given = function("each a, ask, maybe, ask, end, end, each a, head, pause, body, end, maybe, check, close, end, pause")
        for door in (Door(cut="drain", end="ping", fail="ping"), Door(cut="ping", fail="drain", end="check")):
            for lengths, walks in self.runs_by_lengths(given, 3):
                found = [run(Pool(door), "ann", given, lengths, walk.steps).thrown for walk in walks]
                self.assertEqual(thrown(given, door, lengths), max(found))


class WrittenOutTest(PricesCase):

    def test_example(self):
        self.assertEqual(needless(Function.of("pause", "ask", "read"), Door(cut="close")), [(("cut", 0), "always")])

    def test_kinds(self):
        given = function("maybe, ask, end, maybe, close, end, pause")
        self.assertEqual(ways(given), [(), ("cut", 6)])
        self.assertEqual(kinds(given, ("cut", 6)), (True, True, True))
        given = function("begin, finish, pause, read, check, close, return")
        self.assertEqual(ways(given), [("cut", 1), ("cut", 2), ("cut", 3), ("fail", 4), ("return", 6)])
        self.assertEqual([kinds(given, way) for way in ways(given)],
                         [(False, True, False)] * 3 + [(True, False, False), (False, False, True)])
        self.assertEqual(kinds(given, ()), NOTHING)
        given = function("ask, head, pause, body, begin, pause, finish, drain")
        self.assertEqual([kinds(given, way) for way in ways(given)],
                         [(True, False, False)] + [(False, True, False)] * 5)

    def test_clean_for_some_lengths_only(self):
        given = function("each a, ask, end, pause, each a, read, end")
        self.assertEqual(kinds(given, ("cut", 3)), (True, True, False))
        self.assertEqual(kinds(given, ("cut", 5)), (False, True, False))
        self.assertEqual(kinds(given, ()), (True, False, False))
        given = function("each a, pause, ask, end, each a, read, pause, end")
        self.assertEqual(kinds(given, ("cut", 1)), (True, True, False))
        self.assertEqual(kinds(given, ("cut", 6)), (True, True, False))
        self.assertEqual(kinds(given, ("cut", 5)), (False, True, False))

    def test_needless(self):
        given = function("pause, ask, pause, read, check, maybe, ask, end")
        self.assertEqual(needless(given, Door(end="close", fail="close", cut="close")),
                         [((), "sometimes"), (("cut", 0), "always"), (("fail", 4), "always")])
        self.assertEqual(needless(given, single(Door(end="close", fail="drain", cut="check"), (("fail", 4), "close"))),
                         [((), "sometimes"), (("fail", 4), "always")])
        self.assertEqual(needless(given, single(Door(end="close"), ((), "check"), (("cut", 0), "close"), (("cut", 9), "close"),
                                                (("return", 0), "close"))), [(("cut", 0), "always")])
        self.assertEqual(needless(function("close, pause"), Door(end="close", cut="close")), [])

    def test_thrown(self):
        given = function("each a, ask, maybe, ask, end, pause, end, each b, ask, end, pause")
        lengths = {"a": HUGE, "b": 10 ** 58}
        for door, expected in ((Door(cut="drain"), 2 * HUGE + 10 ** 58), (Door(cut="ping"), 2 * HUGE + 10 ** 58 + 1),
                               (Door(end="ping"), 2 * HUGE + 10 ** 58 + 1), (Door(cut="close"), 0), (Door(), 0),
                               (single(Door(), (("cut", 5), "ping")), 2 * HUGE + 1),
                               (single(Door(), (("cut", 5), "drain"), (("cut", 11), "check")), 2 * HUGE),
                               (single(Door(cut="ping"), (("cut", 10), "drain")), 2 * HUGE + 10 ** 58),
                               (single(Door(cut="ping"), (("cut", 10), "check")), 2 * HUGE + 1)):
            self.assertEqual(thrown(given, door, lengths), expected)
        self.assertEqual(thrown(given, Door(cut="ping"), {}), 1)
        self.assertEqual(thrown(given, Door(cut="drain"), {}), 0)
        self.assertEqual(thrown(given, Door(cut="drain"), {"b": 3, "c": 5}), 3)

    def test_thrown_where_the_greater_one_depends_on_the_lengths(self):
        given = function("maybe, each a, ask, end, else, ask, ask, each b, ask, end, end, pause")
        for size, other, expected in ((0, 0, 2), (2, 0, 2), (3, 0, 3), (HUGE, 5, HUGE), (5, HUGE, HUGE + 2)):
            lengths = {"a": size, "b": other}
            self.assertEqual(thrown(given, Door(cut="drain"), lengths), expected)
            self.assertEqual(thrown(given, Door(end="ping"), lengths), expected + 1)

    def test_half_sent_and_half_read(self):
        self.assertEqual(thrown(function("ask, begin, pause, finish"), Door(cut="drain"), {}), 0)
        self.assertEqual(thrown(function("ask, begin, finish"), Door(cut="ping"), {}), 0)
        self.assertEqual(thrown(function("ask, ask, head, pause"), Door(cut="ping", end="ping"), {}), 3)
        self.assertEqual(thrown(function("ask, ask, shield, head, pause, end, begin"), Door(end="drain"), {}), 0)
        self.assertEqual(thrown(function("ask, ask, shield, head, end, pause"), single(Door(), (("cut", 5), "drain")), {}), 2)
        self.assertEqual(thrown(function("ask, ask, shield, head, end, pause"), single(Door(), (("cut", 5), "ping")), {}), 0)

    def test_functions_of_24_rows(self):
        for text in HEAVY:
            given = function(text)
            for way in ways(given):
                self.assertIn(True, kinds(given, way))
            self.assertLessEqual(len(needless(given, Door(end="close", fail="close", cut="close"))), len(ways(given)))
            self.assertGreaterEqual(thrown(given, Door(end="ping", fail="ping", cut="ping"), {"a": HUGE, "b": HUGE}), 1)


class AnyValueTest(PricesCase):

    def test_any_value_as_the_way(self):
        given = function("retry 1, pause, check, end, return")
        for thing in ANY_VALUES + [("cut",), ("cut", 9), ("cut", "1"), ("cut", True), ["cut", 1], ("cut", 1, 1), (1, "cut"),
                                   (("cut", 1),), ("Cut", 1), ("fail", 1), ("cut", 2), ("return", 1), ("end", 4), {"cut": 1},
                                   ("cut", None), (None, 1), (["cut"], 1), ("cut", [1]), ("cut", -1)]:
            self.assertEqual(kinds(given, thing), NOTHING)
        self.assertEqual(kinds(way=("cut", 1), function=given), (True, False, False))
        self.assertEqual([part.__class__ for part in kinds(given, ("cut", 1))], [bool] * 3)
        self.assertEqual(kinds(Function("ask"), ()), (False, True, False))
        self.assertEqual(kinds(Function("ask"), []), NOTHING)

    def test_faulty(self):
        for text in FAULTY:
            given = function(text)
            with self.assertRaises(Faulty) as caught:
                account(given)
            expected = (caught.exception.kind, caught.exception.lengths, caught.exception.moves)
            for call in (lambda: ways(given), lambda: kinds(given, ()), lambda: kinds(given, None),
                         lambda: needless(given, Door()), lambda: thrown(given, Door(), {})):
                with self.assertRaises(Faulty) as again:
                    call()
                self.assertEqual((again.exception.kind, again.exception.lengths, again.exception.moves), expected)

    def test_nothing_is_changed(self):
        given = function("each a, ask, end, pause")
        door = single(Door(cut="close", end="close"), (("cut", 3), "ping"))
        lengths = {"a": 2, "z": 1}
        ways(function=given).clear()
        needless(door=door, function=given).clear()
        self.assertEqual(thrown(lengths=lengths, door=door, function=given), 3)
        self.assertEqual((ways(given), needless(given, door)), ([(), ("cut", 3)], [((), "sometimes")]))
        self.assertEqual((lengths, door[("cut", 3)], door[("cut", 4)]), ({"a": 2, "z": 1}, "ping", "close"))
        for call in (ways, kinds, needless, thrown):
            self.assertEqual(call.__module__, "owedanswers.prices")


if __name__ == "__main__":
    unittest.main()
