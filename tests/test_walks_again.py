"""[17] to [22]: each run step by step beside one of tests/oracle.py, which does them in another way."""

import unittest
from random import Random

from owedanswers.functions import Function
from owedanswers.runs import Walk
from tests.oracle import CALM, Oracle, all_runs, some_functions

# Blocks of all kinds in one another, and events in second parts.
DEEP = [
    "try, check, finally, try, check, rescue, try, check, finally, try, check, rescue, check, end, end, end, end",
    "try, try, check, finally, check, end, rescue, try, pause, finally, check, end, end",
    "retry 2, try, check, finally, retry 2, try, check, rescue, pause, end, end, end, end, check",
    "try, retry 2, try, check, finally, check, end, end, finally, retry 2, check, end, end",
    "retry 2, retry 2, try, check, rescue, check, end, end, end",
    "retry 2, try, each a, check, end, finally, each b, check, end, end, end",
    "each a, try, check, finally, retry 2, try, check, finally, check, end, end, end, end",
    "each a, retry 2, try, maybe, pause, else, check, end, finally, check, end, end, end",
    "try, each a, maybe, return, else, pause, end, end, finally, try, each a, check, end, rescue, each b, pause, end, end, end",
    "try, return, rescue, check, end, check",
    "try, try, return, finally, check, end, rescue, pause, end",
    "try, try, return, rescue, check, end, finally, pause, end",
    "shield, try, read, check, finally, shield, pause, check, end, pause, end, end",
    "each a, shield, maybe, try, check, rescue, pause, end, else, retry 3, check, end, end, end, end",
    "retry 3, try, ask, read, check, finally, close, end, end",
    "try, each a, begin, finish, head, body, end, rescue, drain, close, end",
    "retry 2, try, ask, head, begin, check, finish, rescue, drain, pause, close, end, end",
    "try, pause, finally, retry 2, try, check, finally, retry 2, check, end, end, end, end",
    "retry 2, try, check, finally, try, check, rescue, try, check, finally, end, end, end, end",
    "each a, maybe, try, retry 2, shield, check, end, end, rescue, maybe, drain, else, close, end, end, end, end",
    "retry 2, each a, try, maybe, shield, pause, check, end, else, return, end, finally, check, end, end, end",
    "shield, retry 2, try, each a, maybe, begin, finish, head, body, end, check, end, finally, drain, end, end, end",
    "maybe, try, pause, finally, each b, retry 2, shield, check, end, end, end, end, end",
    "try, ask, finally, try, read, finally, maybe, each a, retry 2, check, end, end, end, end, end",
    "try, try, try, pause, finally, check, end, rescue, check, end, finally, check, end",
]


class WalksAgainTest(unittest.TestCase):

    def assert_same(self, walk, oracle):
        where = (oracle.rows, oracle.lengths, oracle.steps)
        line = oracle.line
        self.assertEqual((walk.spot, walk.done(), walk.steps), (oracle.spot(), oracle.done(), tuple(oracle.steps)), where)
        self.assertEqual((walk.mark, walk.owed), (line.mark, len(line.tags)), where)
        self.assertEqual((walk.asked, walk.taken), (len(oracle.sent), len(oracle.got)), where)
        self.assertEqual((walk.choices(), walk.is_over), (oracle.choices(), oracle.is_over()), where)
        self.assertEqual((walk.fault, walk.way, walk.report), (oracle.fault, oracle.way, oracle.report()), where)

    def assert_same_run(self, function, lengths, moves):
        """Moves is a function from the choices to one of them."""
        oracle, walk = Oracle(function.rows, lengths), Walk(function, lengths)
        self.assert_same(walk, oracle)
        while not oracle.is_over():
            move = moves(oracle.choices())
            oracle.step(move)
            self.assertEqual(walk.step(move), not oracle.is_over())
            self.assert_same(walk, oracle)

    def test_all_runs_of_deep_functions(self):
        for rows in DEEP:
            function = Function.of(*rows.split(", "))
            for lengths in ({}, {"a": 1}, {"a": 2, "b": 1}):
                runs = [[move for _, move in oracle.steps] for oracle in all_runs(function.rows, lengths)]
                for moves in runs:
                    ahead = iter(moves)
                    self.assert_same_run(function, lengths, lambda choices: next(ahead))

    def test_some_runs_of_some_functions(self):
        chance = Random(3)
        for function in some_functions(31, 250) + some_functions(32, 250, CALM):
            for _ in range(6):
                lengths = {"a": chance.randint(0, 3), "b": chance.randint(0, 2)}
                self.assert_same_run(function, lengths, chance.choice)

    def test_lists_with_very_many_items(self):
        chance = Random(4)
        for function in some_functions(33, 60) + some_functions(34, 60, CALM):
            steps = iter(range(300))
            oracle, walk = Oracle(function.rows, {"a": 10 ** 50, "b": 10 ** 50}), Walk(function, {"a": 10 ** 50, "b": 10 ** 50})
            while not oracle.is_over() and next(steps, None) is not None:
                move = chance.choice(oracle.choices())
                oracle.step(move)
                walk.step(move)
            self.assert_same(walk, oracle)


if __name__ == "__main__":
    unittest.main()
