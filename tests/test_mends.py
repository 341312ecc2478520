"""[29] and the section owedanswers/mends.py, held against a search over all sets of mends."""

import unittest
from itertools import combinations
from random import Random

from owedanswers.errors import BadFunction, NotCut, TooMany
from owedanswers.functions import Function
from owedanswers.judging import judge
from owedanswers.mends import is_good, least_mends, mended
from owedanswers.pools import WORDS, Door
from owedanswers.showing import shown
from tests.makers import function, likely_functions
from tests.states import all_lengths, states
from tests.test_judging import single, some_doors

SMALL = [
    "ask, read", "ask, head, body", "begin, finish, read", "ask, ask, read, read", "pause, ask, read, check",
    "pause, pause, ask, read", "ask, read, pause, ask, read, pause",
    "try, ask, read, finally, drain, end", "try, ask, read, rescue, pause, drain, end", "ask, check, read",
    "try, ask, read, rescue, close, end", "ask", "ask, return", "maybe, ask, return, end, ask, read",
    "each a, ask, end, each a, read, end", "each a, ask, read, end", "ask, pause, pause, read",
    "retry 2, ask, check, end", "retry 2, ask, check, read, end", "retry 2, try, ask, check, read, rescue, drain, end, end",
    "ask, each a, read, end", "read", "begin", "body", "try, pause, finally, ask, end, try, read, finally, pause, end",
    "try, pause, rescue, ask, pause, end", "ask, try, pause, read, finally, check, end",
    "try, pause, ask, finally, read, end", "try, pause, finally, try, ask, read, finally, pause, end, end",
    "ask, try, pause, rescue, read, end, read", "ask, try, pause, rescue, end, shield, read, end",
    "try, ask, pause, read, rescue, try, pause, drain, rescue, drain, end, end",
    "begin, try, pause, rescue, finish, end, finish, read",
]


def wide_search(given, door, shield, close):
    """All least sets among all sets of mends; the mended functions are judged."""
    ways = [(), *(("cut", row) for row in given.waits())]
    ways += [(word, row) for row, text in enumerate(given.rows) for word in ("fail", "return")
             if text == {"fail": "check", "return": "return"}[word]]
    possible = [("shield", row) for row in given.waits() if shield] + [("close", way) for way in ways if close]
    for many in range(len(possible) + 1):
        found = []
        for mends in combinations(sorted(possible), many):
            new_function, new_door = mended(given, door, mends)
            if judge(new_function, new_door):
                found.append(mends)
        if found:
            return found
    return []


class LeastTest(unittest.TestCase):

    def assert_least(self, given, door):
        for shield in (True, False):
            for close in (True, False):
                found = least_mends(given, door, shield=shield, close=close)
                self.assertEqual(found, wide_search(given, door, shield, close), (given.rows, shield, close))
                self.assertIs(type(found), list)
                self.assert_mended(given, door, found)
        self.assertEqual(least_mends(given, door), least_mends(given, door, close=True, shield=True))

    def assert_mended(self, given, door, found):
        """Each least set makes the function sound, and a run of it harms nobody."""
        for mends in found:
            self.assertIs(is_good(given, door, mends), True)
            self.assertEqual(list(mends), sorted(set(mends)))
            for left in range(len(mends)):
                self.assertIs(is_good(given, door, mends[:left] + mends[left + 1:]), False)
            new_function, new_door = mended(given, door, mends)
            self.assertTrue(judge(new_function, new_door))
            for lengths in all_lengths(new_function, 1):
                over = [walk for walk in states(new_function, lengths)[0].values() if walk.is_over]
                for walk in over[:3] + over[-3:]:
                    runs = shown(new_function, new_door, tuple(lengths.values()), walk.steps)
                    self.assertEqual([(one.stopped, one.strangers) for one in runs], [(None, ()), (None, ())])

    def test_example(self):
        self.assertEqual(least_mends(Function.of("ask", "read"), Door()), [(("close", ("cut", 1)),), (("shield", 1),)])

    def test_written_out(self):
        self.assertEqual(least_mends(Function.of("ask", "read"), Door(cut="drain")), [()])
        self.assertEqual(least_mends(Function.of("ask", "read"), Door(), shield=False), [(("close", ("cut", 1)),)])
        self.assertEqual(least_mends(Function.of("ask", "read"), Door(), close=False), [(("shield", 1),)])
        self.assertEqual(least_mends(Function.of("ask", "read"), Door(), close=False, shield=False), [])
        self.assertEqual(least_mends(Function.of("read"), Door()), [])
        self.assertEqual(least_mends(Function.of("ask"), Door()), [(("close", ()),)])
        self.assertEqual(least_mends(Function.of("ask"), Door(), close=False), [])
        self.assertEqual(least_mends(function("try, pause, ask, finally, read, end"), Door()),
                         [(("close", ("cut", 4)), ("shield", 1)), (("shield", 1), ("shield", 4))])
        # What is shielded spares the closing of several ways.
        given = function("ask, try, pause, finally, maybe, check, end, end")
        self.assertEqual(least_mends(given, Door(end="close")),
                         [(("close", ("cut", 2)), ("close", ("fail", 5))), (("close", ("fail", 5)), ("shield", 2))])
        given = function("try, ask, pause, finally, maybe, shield, read, end, end, maybe, check, end, end")
        self.assertEqual(least_mends(given, Door(end="close", fail="close")), [(("close", ("cut", 2)),), (("shield", 2),)])

    def test_all_sets_for_small_functions(self):
        doors = [Door(), Door(cut="check"), single(Door(end="ping", fail="close"), (("cut", 1), "keep"), ((), "keep"))]
        for text in SMALL:
            for door in doors:
                self.assert_least(function(text), door)

    def test_some_functions(self):
        chance = Random(36)
        many = 0
        kinds = set()
        for given in likely_functions(36, 400):
            closings = len([row for row in given.rows if row in ("check", "return")])
            if len(given.waits()) > 2 or closings > 2 or len(given) > 16:
                continue
            door = some_doors(chance)
            self.assert_least(given, door)
            kinds.add(tuple(len(mends) for mends in least_mends(given, door)))
            many += 1
        self.assertGreater(many, 80)
        self.assertGreater(len(kinds), 5)

    def test_many_rows(self):
        six = function("ask, ask, ask, ask, ask, ask, read, read, read, read, read, read")
        found = least_mends(six, Door())
        self.assertEqual(len(found), 64)
        self.assertEqual(found, sorted(found))
        for mends in found:
            self.assertEqual(sorted(mend[1] if mend[0] == "shield" else mend[1][1] for mend in mends), [6, 7, 8, 9, 10, 11])
        self.assertEqual(least_mends(six, Door(cut="drain")), [()])
        self.assertEqual(least_mends(six, Door(), shield=False), [tuple(("close", ("cut", row)) for row in range(6, 12))])
        deep = function("try, pause, check, check, ask, finally, try, pause, check, check, finally, try, pause, check, check, pause"
                        ", finally, pause, check, pause, drain, end, end, end")
        self.assertEqual(len(least_mends(deep, Door())[0]), 3)
        seven = Function.of(*["pause"] * 7)
        for shield in (True, False):
            for close in (True, False):
                with self.assertRaises(TooMany) as caught:
                    least_mends(seven, Door(), shield=shield, close=close)
                self.assertEqual(caught.exception.what, "rows")
        self.assertEqual(least_mends(Function.of("shield", *["pause"] * 7, "end"), Door()), [()])

    def test_functions_of_24_rows(self):
        given = function("each a, ask, pause, end, each a, pause, read, end, each b, ask, pause, end, each b, read, end"
                         ", retry 3, retry 3, check, end, end, check, drain, pause, drain")
        self.assertEqual((len(given), len(given.waits())), (24, 6))
        for door in (Door(), Door(cut="close"), Door(fail="close", end="close")):
            for mends in least_mends(given, door):
                self.assertTrue(is_good(given, door, mends))

    def test_the_arguments_stay(self):
        given = Function.of("ask", "read")
        door = single(Door(), (("cut", 0), "ping"))
        least_mends(given, door).clear()
        self.assertEqual(len(least_mends(close=True, door=door, shield=True, function=given)), 2)
        self.assertEqual((door[("cut", 0)], door[("cut", 1)], given.rows), ("ping", "keep", ("ask", "read")))
        with self.assertRaises(TypeError):
            least_mends(given, door, True)
        for call in (least_mends, mended, is_good):
            self.assertEqual(call.__module__, "owedanswers.mends")


class MendedTest(unittest.TestCase):

    def test_rows_and_words(self):
        given = function("ask, read, check, head, body, return")
        door = single(Door(end="check", fail="drain", cut="ping"), (("cut", 1), "keep"), (("cut", 3), "close"),
                      (("fail", 2), "check"), ((), "drain"), (("return", 5), "ping"), (("cut", 6), "close"),
                      (("fail", 99), "close"), (("cut", 4), "check"), (("cut", 0), "drain"), (("return", 0), "keep"))
        pair = mended(given, door, [("shield", 3), ("close", ("cut", 4)), ("shield", 1)])
        self.assertIs(type(pair), tuple)
        new_function, new_door = pair
        self.assertEqual(new_function.rows, ("ask", "shield", "read", "end", "check", "shield", "head", "end", "body", "return"))
        words = {(): "drain", ("cut", 0): "drain", ("cut", 2): "keep", ("fail", 4): "check", ("cut", 6): "close",
                 ("cut", 8): "close", ("return", 9): "ping", ("return", 0): "keep"}
        for way in [()] + [(word, row) for word in ("cut", "fail", "return") for row in range(120)]:
            expected = words.get(way, {"cut": "ping", "fail": "drain"}.get(way[0] if way else "", "check"))
            self.assertEqual(new_door[way], expected, way)
        self.assertEqual((given.rows[1], door[("cut", 4)], door[("cut", 6)]), ("read", "check", "close"))

    def test_closings(self):
        given = function("ask, read")
        for mends in ([("close", ("cut", 2))], (("close", ("cut", 10 ** 60 - 1)),), [("close", ("fail", 2)), ("close", ("cut", 2))]):
            new_function, new_door = mended(given, Door(), mends)
            self.assertEqual(new_function, given)
            for way in [()] + [(word, row) for word in ("cut", "fail", "return") for row in (0, 1, 2, 3, 4, 10 ** 60 - 1)]:
                self.assertEqual(new_door[way], "keep")
        new_door = mended(given, Door(cut="ping"), [("close", ()), ("close", ("return", 0)), ("close", ()), ("shield", 1)])[1]
        self.assertEqual([new_door[way] for way in ((), ("return", 0), ("return", 1), ("cut", 1), ("cut", 2))],
                         ["close", "close", "keep", "ping", "ping"])
        door = single(Door(), (("cut", 1), "ping"))
        self.assertEqual(mended(given, door, (("close", ("cut", 1)),))[1][("cut", 1)], "close")
        self.assertEqual(mended(given, door, (("close", ("cut", 1)), ("shield", 1)))[1][("cut", 2)], "close")
        self.assertEqual(mended(given, door, (("close", ("cut", 1)), ("shield", 1)))[1][("cut", 1)], "keep")

    def test_without_mends(self):
        given = function("ask, read")
        door = single(Door(), (("cut", 1), "ping"), (("cut", 2), "ping"))
        new_function, new_door = mended(given, door, [])
        self.assertEqual((new_function, new_door[("cut", 1)], new_door[("cut", 2)]), (given, "ping", "keep"))
        self.assertIsNot(new_door, door)
        new_door[("cut", 1)] = "close"
        new_door[("cut", 0)] = "close"
        self.assertEqual((door[("cut", 1)], door[("cut", 0)]), ("ping", "keep"))

    def test_errors_in_order(self):
        given = function("each a, pause, ask, read, end, shield, pause, end")
        for mends, row in (([("shield", 0)], 0), ([("shield", 3), ("shield", 6), ("shield", 9)], 6),
                           ([("shield", 3), ("shield", 1), ("shield", 3), ("shield", 0)], 3), ([("shield", 10 ** 60 - 1)], 10 ** 60 - 1),
                           ([("shield", 1), ("close", ("cut", 1)), ("shield", 1)], 1), ((("shield", -1),), -1)):
            with self.assertRaises(NotCut) as caught:
                mended(given, Door(), mends)
            self.assertEqual(caught.exception.row, row)
        full = Function.of(*["pause"] * 23)
        with self.assertRaises(TooMany) as caught:
            mended(full, Door(), [("shield", 4)])
        self.assertEqual(caught.exception.what, "rows")
        with self.assertRaises(NotCut):
            mended(full, Door(), [("shield", 4), ("shield", 4)])
        deep = function("maybe, maybe, maybe, maybe, maybe, pause, end, end, end, end, end")
        with self.assertRaises(BadFunction) as caught:
            mended(deep, Door(), [("shield", 5)])
        self.assertEqual(caught.exception.row, 5)

    def test_by_name(self):
        new_function, new_door = mended(mends=[("shield", 1)], door=Door(), function=Function.of("ask", "read"))
        self.assertEqual((len(new_function), new_door[()]), (4, "keep"))


class IsGoodTest(unittest.TestCase):

    def test_held_against_mended(self):
        chance = Random(37)
        for given in [function(text) for text in SMALL] + likely_functions(37, 150):
            ways = [(), *((word, row) for word in ("cut", "fail", "return") for row in range(len(given) + 1))]
            for _ in range(6):
                door = some_doors(chance)
                rows = chance.sample(given.waits(), chance.randint(0, len(given.waits())))
                mends = [("shield", row) for row in rows] + [("close", way) for way in chance.choices(ways, k=chance.randint(0, 6))]
                try:
                    expected = bool(judge(*mended(given, door, mends)))
                except (TooMany, BadFunction):
                    continue
                chance.shuffle(mends)
                self.assertIs(is_good(given, door, mends), expected, (given.rows, mends))
                self.assertIs(is_good(given, door, tuple(mends + mends)), expected)
                self.assertIs(is_good(given, door, tuple(mends + [("close", ("fail", 10 ** 60 - 1))])), expected)

    def test_written_out(self):
        given = Function.of("ask", "read")
        for mends, expected in (([], False), ([("shield", 1)], True), ([("close", ("cut", 1))], True), ([("close", ())], False),
                                ([("close", ("cut", 0))], False), ([("close", ("fail", 1)), ("close", ("cut", 7))], False),
                                ([("close", ("cut", 1)), ("shield", 1), ("shield", 1), ("close", ("cut", 1))], True)):
            self.assertIs(is_good(given, Door(), mends), expected)
            self.assertIs(is_good(given, Door(), tuple(mends)), expected)
        self.assertIs(is_good(Function.of("read"), Door(), [("shield", 0), ("close", ())]), False)

    def test_functions_that_can_not_be_written(self):
        full = Function.of(*["pause"] * 22, "ask", "read")
        self.assertIs(is_good(full, Door(), [("shield", 23)]), True)
        self.assertIs(is_good(full, Door(), [("shield", 22 - row) for row in range(1, 23)]), False)
        deep = function("ask, maybe, maybe, maybe, maybe, maybe, pause, end, end, end, end, end, read")
        self.assertIs(is_good(deep, Door(), [("shield", 6), ("shield", 12)]), True)
        self.assertIs(is_good(deep, Door(), [("shield", 6), ("close", ("cut", 12))]), True)
        self.assertIs(is_good(deep, Door(), [("shield", 6)]), False)
        self.assertIs(is_good(deep, Door(), [("shield", 12)]), False)
        self.assertEqual(least_mends(deep, Door(), close=False), [(("shield", 6), ("shield", 12))])

    def test_not_cut(self):
        given = function("ask, read, shield, pause, end")
        for mends, row in (([("shield", 0)], 0), ([("shield", 1), ("shield", 3), ("shield", 0)], 3), ((("shield", 9),), 9),
                           ([("close", ("cut", 1)), ("shield", -1)], -1), ([("shield", 1), ("shield", 1), ("shield", 4)], 4)):
            with self.assertRaises(NotCut) as caught:
                is_good(given, Door(), mends)
            self.assertEqual(caught.exception.row, row)

    def test_the_arguments_stay(self):
        given, door, mends = Function.of("ask", "read"), single(Door(), (("cut", 1), "keep")), [("close", ("cut", 1))]
        self.assertIs(is_good(mends=mends, door=door, function=given), True)
        self.assertEqual((door[("cut", 1)], mends), ("keep", [("close", ("cut", 1))]))
        mended(given, door, mends)
        self.assertEqual((door[("cut", 1)], mends), ("keep", [("close", ("cut", 1))]))
        for word in WORDS[1:]:
            self.assertIs(is_good(given, single(Door(), (("cut", 1), word)), []), True)


if __name__ == "__main__":
    unittest.main()
