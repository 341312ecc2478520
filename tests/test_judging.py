"""[25], what [3] says of judge, and the section owedanswers/judging.py; the fewest steps by a search over all lengths."""

import unittest
from random import Random

from owedanswers.functions import Function
from owedanswers.judging import Verdict, judge
from owedanswers.looker import is_certificate
from owedanswers.pools import WORDS, Door
from owedanswers.runs import Walk
from tests.checker import Checker
from tests.makers import function, likely_functions
from tests.oracle import some_functions
from tests.states import fault_for, fewest_steps
from tests.test_tables import FAULTY, HEAVY, SOME

KEEPING = Door()


def single(door, *pairs):
    for way, word in pairs:
        door[way] = word
    return door


def some_doors(chance):
    """A door, mostly with the word keep, and often with words for single ways."""
    door = Door(**{reason: chance.choice(("keep",) * 4 + WORDS) for reason in ("end", "fail", "cut")})
    for _ in range(chance.choice((0, 0, 1, 2))):
        row = chance.randrange(24)
        door[chance.choice(((), ("cut", row), ("fail", row), ("return", row)))] = chance.choice(WORDS)
    return door


class JudgeCase(unittest.TestCase):

    def assert_sound(self, given, door):
        verdict = judge(given, door)
        self.assertIs(bool(verdict), True, given.rows)
        self.assertEqual(len(verdict), 0)
        self.assertEqual(verdict.certificate[0], "sound")
        self.assertEqual([part.__class__ for part in verdict.certificate], [str, tuple])
        self.assertTrue(is_certificate(given, door, verdict.certificate), given.rows)
        return verdict.certificate[1]

    def assert_faulty(self, given, door, steps=None, kind=None):
        verdict = judge(given, door)
        self.assertIs(bool(verdict), False, given.rows)
        word, fault, lengths, moves = verdict.certificate
        self.assertEqual((word, len(moves), lengths.__class__, moves.__class__), ("faulty", len(verdict), tuple, tuple))
        walk = Walk(given, dict(zip(given.lists, lengths)))
        for at, (row, move) in enumerate(moves):
            self.assertEqual(walk.spot[0], row)
            self.assertIs(walk.step(move), at + 1 < len(moves))
        self.assertEqual(fault_for(walk, door), fault)
        self.assertTrue(is_certificate(given, door, verdict.certificate))
        if steps is not None:
            self.assertEqual(len(moves), steps, (given.rows, moves))
        if kind is not None:
            self.assertEqual(fault, kind, given.rows)
        return verdict.certificate


class WrittenOutTest(JudgeCase):

    def test_example(self):
        self.assertEqual(judge(Function.of("ask", "read"), Door()).certificate,
                         ("faulty", "left", (), ((0, "go"), (1, "cut"))))

    def test_inner_faults(self):
        for text, kind in FAULTY.items():
            given = function(text)
            closing = Door(end="close", fail="check", cut="ping")
            steps = fewest_steps(given, closing, 6 if "ask, ask, ask" in text else 3)
            self.assert_faulty(given, closing, steps, kind)

    def test_without_faults(self):
        for text in SOME:
            given = function(text)
            for word in WORDS[1:]:
                self.assert_sound(given, Door(end=word, fail=word, cut=word))

    def test_left(self):
        for text, door, steps in (
                ("ask", Door(), 1),
                ("ask", Door(fail="close", cut="close"), 1),
                ("ask, read", Door(end="close", fail="close"), 2),
                ("ask, return", Door(fail="close", cut="close"), 2),
                ("ask, check, read", Door(end="close", cut="close"), 2),
                ("begin", Door(), 1),
                ("maybe, begin, end", Door(), 2),
                ("maybe, else, begin, end", Door(), 2),
                ("begin, finish, drain", Door(), 2),
                ("ask, head, pause, body", single(Door(), (("cut", 1), "close")), 3),
                ("each a, ask, end, drain, pause", single(Door(), (("cut", 4), "keep")), None),
                ("each a, ask, end, each a, read, end", Door(), 5),
                ("each a, ask, end, each a, read, end", Door(cut="drain"), None),
                ("try, ask, check, read, finally, drain, end", Door(cut="close"), None),
                ("try, ask, pause, finally, pause, drain, end", Door(), 3),
                ("try, ask, pause, finally, shield, pause, end, drain, end", Door(), None),
                ("ask, maybe, read, end, drain", single(Door(), (("cut", 2), "check")), None),
                ("ask, maybe, read, end", single(Door(cut="close"), ((), "drain")), None),
                ("ask, maybe, read, end", single(Door(cut="close"), (("return", 4), "drain")), 2),
                ("ask, close", Door(), None),
                ("each a, ask, end, each a, shield, read, end, end", Door(), None),
                ("each a, ask, end, each a, shield, read, end, maybe, ask, end, end, drain", Door(), None),
                ("each a, ask, end, each a, shield, read, end, maybe, ask, end, end", Door(), 8),
        ):
            given = function(text)
            if steps is None:
                self.assert_sound(given, door)
            else:
                self.assert_faulty(given, door, steps, "left")
            self.assertEqual(fewest_steps(given, door, 3), steps, text)

    def test_the_fewest_steps_are_those_of_any_fault(self):
        given = function("maybe, pause, pause, pause, read, else, ask, pause, end")
        self.assert_faulty(given, Door(), 3, "left")
        self.assert_faulty(given, Door(end="check", cut="close"), 5, "starved")
        self.assert_faulty(function("ask, each a, read, end"), Door(end="close", cut="close"), 5, "starved")
        self.assert_faulty(function("ask, each a, read, end"), Door(), 2, "left")

    def test_lists_that_come_again(self):
        for text, lengths, steps in (
                ("each a, ask, end, each b, ask, end, each a, shield, read, end, read, end", (0, 1), 5),
                ("ask, each a, end, each a, shield, read, end, end", (0,), 3),
                ("ask, each a, shield, read, end, end, each a, maybe, ask, end, end, each a, maybe, ask, end, end", (0,), 4),
                ("retry 2, each a, check, end, ask, check, read, drain, end", (0,), 5),
                ("ask, ask, retry 2, end", (), 3),
                ("retry 2, each a, pause, check, end, end, each a, read, end", (1,), 7),
                ("retry 3, each a, check, end, check, each a, read, end, end", (1,), 7),
                ("each a, end, maybe, return, end, each a, read, end", (1,), 5),
        ):
            door = Door(fail="close", cut="close")
            self.assertEqual(self.assert_faulty(function(text), door, steps)[2], lengths, text)
            self.assertEqual(fewest_steps(function(text), door, 3), steps, text)


class SearchTest(JudgeCase):

    def test_likely_functions(self):
        chance = Random(26)
        kinds = {}
        for given in likely_functions(26, 400):
            door = some_doors(chance)
            steps = fewest_steps(given, door, 3 if len(given) < 15 else 2)
            if steps is None:
                self.assert_sound(given, door)
                kinds["sound"] = kinds.get("sound", 0) + 1
            else:
                kind = self.assert_faulty(given, door, steps)[1]
                kinds[kind] = kinds.get(kind, 0) + 1
        self.assertEqual(len(kinds), 6)
        self.assertGreater(min(kinds.values()), 3)

    def test_functions_of_all_kinds(self):
        chance = Random(27)
        for given in some_functions(27, 400):
            door = some_doors(chance)
            steps = fewest_steps(given, door, 2)
            if steps is None:
                self.assert_sound(given, door)
            else:
                self.assert_faulty(given, door, steps)

    def test_functions_of_24_rows(self):
        for text in HEAVY:
            given = function(text)
            self.assert_sound(given, Door(end="close", fail="close", cut="close"))
        self.assert_sound(function(HEAVY[0]), Door())
        self.assert_faulty(function(HEAVY[2]), Door(), 7, "left")

    def test_small_certificates_keep_the_points(self):
        for text in SOME:
            given = function(text)
            door = Door(end="drain", fail="drain", cut="drain")
            self.assertTrue(Checker(given, door).are_right(judge(given, door).certificate[1]))


class VerdictTest(JudgeCase):

    def test_class(self):
        self.assertEqual((Verdict.__module__, judge.__module__), ("owedanswers.judging",) * 2)
        self.assertIn("__bool__", vars(Verdict))
        self.assertIn("__len__", vars(Verdict))
        verdict = judge(door=Door(), function=Function("ask"))
        self.assertIsInstance(verdict, Verdict)
        self.assertNotEqual(verdict, verdict.certificate)
        self.assertNotEqual(verdict, False)

    def test_a_function_without_steps(self):
        entries = self.assert_sound(function("try, finally, end"), Door())
        self.assertEqual(entries, (((3, (), ()), "whole", (), (), (0, ()), (0, ())),))

    def test_the_arguments_stay(self):
        door = single(Door(cut="ping"), (("cut", 1), "check"))
        given = Function.of("ask", "read")
        judge(given, door)
        self.assertEqual((door[("cut", 1)], door[("cut", 0)], door[()], given.rows),
                         ("check", "ping", "keep", ("ask", "read")))
        verdict = judge(given, door)
        door[("cut", 1)] = "keep"
        self.assertTrue(verdict)
        self.assertFalse(judge(given, door))


if __name__ == "__main__":
    unittest.main()
