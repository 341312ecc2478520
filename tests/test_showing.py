"""[21], [23] and the section owedanswers/showing.py: two borrowers one after the other, also in a second way."""

import unittest
from random import Random

from owedanswers.errors import BadMove
from owedanswers.functions import Function
from owedanswers.judging import judge
from owedanswers.pools import WORDS, Door
from owedanswers.runs import Run
from owedanswers.showing import plain, shown
from tests.makers import function, likely_functions
from tests.oracle import Oracle, OracleLine
from tests.states import all_lengths, states
from tests.test_judging import single, some_doors
from tests.test_tables import FAULTY, SOME


def played(rows, lengths, moves, line, name):
    """A run on a line, as [7] to [21] say: the run, its own tags and what it reads of others."""
    oracle = Oracle(rows, lengths, line)
    used = []
    for row, move in moves:
        tag = f"{name}-{len(used)}"
        oracle.step(move, tag)
        if rows[row] in ("ask", "begin") and oracle.fault is None:
            used.append(tag)
    strangers = tuple(tag for tag in oracle.got if tag not in used)
    return oracle, (tuple(oracle.sent), tuple(oracle.got), strangers, oracle.way, oracle.fault)


def given_back(line, word):
    """Does what [14] says of a word; returns how many answers are thrown away."""
    if line.is_closed or word == "keep" or word == "check" and line.is_clean():
        return 0
    if word == "drain" and line.mark in ("whole", "in") or word == "ping" and line.mark == "whole":
        many = len(line.tags) + (word == "ping")
        line.go("drain", None)
        return many
    line.go("close", None)
    return 0


def expected(given, door, lengths, moves):
    """What the two runs should be: a list of tuples."""
    line = OracleLine()
    oracle, first = played(given.rows, dict(zip(given.lists, lengths)), moves, line, "first")
    if oracle.fault is not None:
        return [(0, *first, 0)]
    thrown = given_back(line, door[oracle.way])
    number = 1 if line.is_closed else 0
    line = OracleLine() if line.is_closed else line
    course = Oracle(("ask", "read"), {}, line)
    second_moves = []
    while not course.is_over():
        second_moves.append((course.row, "go"))
        course.step("go", f"second-{course.row}")
    strangers = tuple(tag for tag in course.got if not tag.startswith("second"))
    thrown_second = given_back(line, door[course.way]) if course.fault is None else 0
    second = (number, tuple(course.sent), tuple(course.got), strangers, course.way, course.fault, thrown_second)
    return [(0, *first, thrown), second]


def told(run):
    return (run.number, run.sent, run.got, run.strangers, run.left_by, run.stopped, run.thrown)


class ShownTest(unittest.TestCase):

    def assert_shown(self, given, door, lengths, moves):
        runs = shown(given, door, lengths, moves)
        self.assertIs(type(runs), list)
        self.assertTrue(all(isinstance(one, Run) for one in runs))
        self.assertEqual([told(one) for one in runs], expected(given, door, lengths, moves), (given.rows, moves))
        return runs

    def histories(self, given, most):
        for lengths in all_lengths(given, most):
            found, faulty = states(given, lengths)
            for walk in [walk for walk in found.values() if walk.is_over] + faulty:
                yield tuple(lengths.values()), walk.steps

    def test_plain(self):
        self.assertEqual(plain(), Function.of("ask", "read"))
        self.assertIsNot(plain(), plain())
        self.assertEqual((plain.__module__, shown.__module__), ("owedanswers.showing",) * 2)

    def test_example(self):
        runs = shown(Function.of("ask", "read"), Door(), (), ((0, "go"), (1, "cut")))
        self.assertEqual([told(one) for one in runs], [(0, ("first-0",), (), (), ("cut", 1), None, 0),
                                                       (0, ("second-0",), ("first-0",), ("first-0",), (), None, 0)])

    def test_written_out(self):
        for rows, door, moves, first, second in (
                ("ask, read", Door(), ((0, "go"), (1, "go")), (0, ("first-0",), ("first-0",), (), (), None, 0),
                 (0, ("second-0",), ("second-0",), (), (), None, 0)),
                ("ask, ask, read", Door(cut="ping"), ((0, "go"), (1, "go"), (2, "cut")),
                 (0, ("first-0", "first-1"), (), (), ("cut", 2), None, 3), (0, ("second-0",), ("second-0",), (), (), None, 0)),
                ("ask, ask, read", Door(cut="close"), ((0, "go"), (1, "go"), (2, "cut")),
                 (0, ("first-0", "first-1"), (), (), ("cut", 2), None, 0), (1, ("second-0",), ("second-0",), (), (), None, 0)),
                ("begin, finish", Door(), ((0, "go"), (1, "cut")), (0, (), (), (), ("cut", 1), None, 0),
                 (0, (), (), (), None, "amid", 0)),
                ("ask, head, body", Door(), ((0, "go"), (1, "go"), (2, "cut")), (0, ("first-0",), (), (), ("cut", 2), None, 0),
                 (0, ("second-0",), (), (), None, "amid", 0)),
                ("ask, head, begin, pause", Door(), ((0, "go"), (1, "go"), (2, "go"), (3, "go")),
                 (0, ("first-0",), (), (), (), None, 0), (0, (), (), (), None, "amid", 0)),
                ("close, check", Door(fail="ping"), ((0, "go"), (1, "fail")), (0, (), (), (), ("fail", 1), None, 0),
                 (1, ("second-0",), ("second-0",), (), (), None, 0)),
                ("ask", Door(end="drain"), ((0, "go"),), (0, ("first-0",), (), (), (), None, 1),
                 (0, ("second-0",), ("second-0",), (), (), None, 0)),
                ("pause", Door(end="ping"), ((0, "go"),), (0, (), (), (), (), None, 1),
                 (0, ("second-0",), ("second-0",), (), (), None, 1)),
                ("ask, return", single(Door(), (("return", 1), "check")), ((0, "go"), (1, "go")),
                 (0, ("first-0",), (), (), ("return", 1), None, 0), (1, ("second-0",), ("second-0",), (), (), None, 0)),
        ):
            runs = self.assert_shown(function(rows), door, (), moves)
            self.assertEqual([told(one) for one in runs], [first, second], rows)
        runs = self.assert_shown(Function.of("ask", "ask", "body"), Door(), (), ((0, "go"), (1, "go"), (2, "go")))
        self.assertEqual([told(one) for one in runs], [(0, ("first-0", "first-1"), (), (), None, "amid", 0)])

    def test_histories_of_all_kinds(self):
        chance = Random(31)
        for text in SOME + list(FAULTY):
            given = function(text)
            histories = list(self.histories(given, 2 if len(given.lists) < 3 else 1))
            for lengths, moves in chance.sample(histories, min(20, len(histories))):
                for word in WORDS:
                    self.assert_shown(given, Door(end=word, fail=word, cut=word), lengths, moves)
                self.assert_shown(given, some_doors(chance), lengths, moves)

    def test_some_functions(self):
        chance = Random(32)
        for given in likely_functions(32, 150):
            door = some_doors(chance)
            histories = list(self.histories(given, 1))
            for lengths, moves in chance.sample(histories, min(5, len(histories))):
                self.assert_shown(given, door, lengths, moves)

    def test_bad_moves(self):
        given = function("each a, ask, pause, end, check")
        moves = ((0, "item"), (1, "go"), (2, "go"), (3, "over"), (4, "fail"))
        self.assertEqual(len(shown(given, Door(), (1,), moves)), 2)
        for at in range(5):
            for wrong in ((9, "go"), (moves[at][0], "stop"), None, list(moves[at]), moves[at] + (0,), (True, moves[at][1])):
                with self.assertRaises(BadMove) as caught:
                    shown(given, Door(), (1,), moves[:at] + (wrong,) + moves[at + 1:])
                self.assertEqual(caught.exception.at, at)
            with self.assertRaises(BadMove) as caught:
                shown(given, Door(), (1,), moves[:at])
            self.assertEqual(caught.exception.at, at)
        with self.assertRaises(BadMove) as caught:
            shown(given, Door(), (1,), moves + ((5, "go"),))
        self.assertEqual(caught.exception.at, 5)

    def test_sound_functions_leave_nothing(self):
        chance = Random(33)
        many = 0
        for given in [function(text) for text in SOME] + likely_functions(33, 120):
            door = some_doors(chance)
            verdict = judge(given, door)
            histories = list(self.histories(given, 1))
            for lengths, moves in chance.sample(histories, min(6, len(histories))) if verdict else []:
                runs = shown(given, door, lengths, moves)
                self.assertEqual([(one.stopped, one.strangers) for one in runs], [(None, ()), (None, ())])
                many += 1
            if not verdict and verdict.certificate[1] == "left":
                runs = shown(given, door, *verdict.certificate[2:])
                self.assertTrue(runs[1].strangers or runs[1].stopped, given.rows)
        self.assertGreater(many, 100)

    def test_nothing_is_changed(self):
        door = single(Door(cut="drain"), (("cut", 1), "keep"))
        runs = shown(door=door, moves=[(0, "go"), (1, "cut")], lengths=(), function=Function.of("ask", "read"))
        self.assertEqual(runs[1].strangers, ("first-0",))
        runs.clear()
        self.assertEqual(len(shown(Function.of("ask", "read"), door, (), ((0, "go"), (1, "cut")))), 2)
        self.assertEqual((door[("cut", 1)], door[("cut", 2)]), ("keep", "drain"))


if __name__ == "__main__":
    unittest.main()
