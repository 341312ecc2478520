"""[23], [25] to [27] and the section owedanswers/looker.py."""

import unittest
from random import Random

from owedanswers.errors import Faulty
from owedanswers.functions import Function
from owedanswers.judging import judge
from owedanswers.looker import is_certificate, is_history
from owedanswers.pools import WORDS, Door
from owedanswers.runs import Walk
from owedanswers.tables import account
from tests.changes import ANY_VALUES, HUGE, all_changes
from tests.checker import Checker
from tests.makers import function, likely_functions
from tests.oracle import Oracle
from tests.states import all_lengths, fault_for, states
from tests.test_judging import single, some_doors
from tests.test_tables import FAULTY, HEAVY, SOME

CLOSING = Door(end="close", fail="close", cut="close")
ZERO = (0, ())


def number(many):
    return (many, ())


def entry(row, low, high=None, *, mark="whole", lengths=(), rounds=(), tries=(), events=()):
    """An entry; forms that are integers stand for themselves."""
    high = low if high is None else high
    forms = [number(form) if isinstance(form, int) else form for form in (low, high)]
    return ((row, tries, events), mark, lengths, rounds, *forms)


def is_plainly_history(given, thing):
    """[23] by another way of running functions."""
    if repr(thing)[:1] != "(" or len(thing) != 2 or not all(part.__class__ is tuple for part in thing):
        return False
    lengths, moves = thing
    if len(lengths) != len(given.lists) or not all(size.__class__ is int and size >= 0 for size in lengths):
        return False
    oracle = Oracle(given.rows, dict(zip(given.lists, lengths)))
    for pair in moves:
        if pair.__class__ is not tuple or len(pair) != 2 or pair[0].__class__ is not int or pair[0] != oracle.row:
            return False
        if pair[1].__class__ is not str or pair[1] not in oracle.choices():
            return False
        oracle.step(pair[1])
    return oracle.is_over()


def some_histories(given, most, many):
    """Some histories of a function, of all lengths up to most."""
    found = []
    for lengths in all_lengths(given, most):
        reached, faulty = states(given, lengths)
        over = [walk for walk in reached.values() if walk.is_over] + faulty
        found += [(tuple(lengths.values()), walk.steps) for walk in over]
    return Random(len(found)).sample(found, min(many, len(found)))


class HistoryTest(unittest.TestCase):

    def test_right_ones(self):
        for text in SOME + list(FAULTY):
            for history in some_histories(function(text), 3 if text.count("each") < 3 else 1, 30):
                self.assertIs(is_history(function(text), history), True, history)

    def test_written_out(self):
        given = function("each a, read, end, each b, pause, end")
        for thing, expected in (
                (((1, 0), ((0, "item"), (1, "go"))), True),
                (((1, 0), ((0, "item"), (1, "cut"))), True),
                (((1, 9), ((0, "item"), (1, "cut"))), True),
                (((HUGE, HUGE), ((0, "item"), (1, "cut"))), True),
                (((0, 1), ((0, "over"), (3, "item"), (4, "go"), (5, "over"))), True),
                (((0, 2), ((0, "over"), (3, "item"), (4, "go"), (5, "item"), (4, "cut"))), True),
                (((0, 2), ((0, "over"), (3, "item"), (4, "go"), (5, "over"))), False),
                (((0, 1), ((0, "over"), (3, "item"), (4, "go"))), False),
                (((0, 1), ((0, "over"), (3, "item"), (4, "go"), (5, "over"), (6, "go"))), False),
                (((1, 0), ((0, "item"), (1, "go"), (2, "over"))), False),
                (((1, 0), ((0, "item"), (1, "cut"), (3, "over"))), False),
                (((1, 0), ((0, "item"),)), False),
                (((1, 0), ((0, "over"), (3, "over"))), False),
                (((1,), ((0, "item"), (1, "cut"))), False),
                (((1, 0, 0), ((0, "item"), (1, "cut"))), False),
                (((1, -1), ((0, "item"), (1, "cut"))), False),
                (((1, 0), ((0, "item"), (True, "cut"))), False),
                (((True, 0), ((0, "item"), (1, "cut"))), False),
                (((1, 0), ((False, "item"), (1, "cut"))), False),
                (([1, 0], ((0, "item"), (1, "cut"))), False),
                (((1, 0), [(0, "item"), (1, "cut")]), False),
                (((1, 0), ([0, "item"], (1, "cut"))), False),
                (((1, 0), ((0, "item"), (1, "cut", 0))), False),
                ([(1, 0), ((0, "item"), (1, "cut"))], False),
                (((1, 0), ((0, "item"), (1, ["cut"]))), False),
                (((1, 0), ()), False)):
            self.assertIs(is_history(given, thing), expected, thing)

    def test_changed_ones(self):
        for text in ("each a, pause, check, end, maybe, ask, end", "ask, read, read", "try, retry 2, check, end, finally, end",
                     "each b, begin, finish, end", "try, finally, end", "maybe, ask, return, else, pause, end"):
            given = function(text)
            for history in some_histories(given, 2, 4):
                for thing in all_changes(history):
                    self.assertIs(is_history(given, thing), is_plainly_history(given, thing), (given.rows, thing))

    def test_long_ones(self):
        given = function("each a, pause, ask, end, drain")
        moves = ((0, "item"),) + ((1, "go"), (2, "go"), (3, "item")) * 1999 + ((1, "go"), (2, "go"), (3, "over"), (4, "go"))
        self.assertTrue(is_history(given, ((2000,), moves)))
        self.assertFalse(is_history(given, ((1999,), moves)))
        self.assertFalse(is_history(given, ((2001,), moves)))
        self.assertFalse(is_history(given, ((HUGE,), moves)))
        self.assertTrue(is_history(given, ((HUGE,), moves[:5998] + ((1, "cut"),))))

    def test_any_value(self):
        for thing in ANY_VALUES:
            self.assertIs(is_history(Function("ask"), thing), False)
            self.assertIs(is_history(function("each a, pause, end"), thing), False)
        self.assertIs(is_history(thing=((), ()), function=function("try, finally, end")), True)
        self.assertIs(is_history(thing=((), []), function=function("try, finally, end")), False)


class FaultyTest(unittest.TestCase):

    def test_all_histories(self):
        doors = [Door(), Door(cut="close"), single(Door(end="check", fail="ping", cut="drain"), (("cut", 1), "keep"))]
        for text in SOME + list(FAULTY):
            given = function(text)
            for lengths, moves in some_histories(given, 2 if len(given.lists) < 3 else 1, 15):
                walk = Walk(given, dict(zip(given.lists, lengths)))
                for _, move in moves:
                    walk.step(move)
                for door in doors:
                    for kind in ("amid", "closed", "starved", "stale", "left", None, "", "go"):
                        expected = kind is not None and kind == fault_for(walk, door)
                        thing = ("faulty", kind, lengths, moves)
                        self.assertIs(is_certificate(given, door, thing), expected, (text, thing))

    def test_changed_ones(self):
        for text, door in (("each a, ask, read, end", Door()), ("ask, each a, read, end", Door(cut="close")),
                           ("retry 2, ask, check, end", Door()), ("ask, check", Door(end="close"))):
            given = function(text)
            certificate = judge(given, door).certificate
            self.assertTrue(is_certificate(given, door, certificate))
            for thing in all_changes(certificate):
                expected = (thing.__class__ is tuple and len(thing) == 4 and thing[0].__class__ is str
                            and thing[0] == "faulty" and is_plainly_history(given, thing[2:]))
                if expected:
                    walk = Walk(given, dict(zip(given.lists, thing[2])))
                    for _, move in thing[3]:
                        walk.step(move)
                    expected = thing[1].__class__ is str and thing[1] == fault_for(walk, door)
                self.assertIs(is_certificate(given, door, thing), expected, (text, thing))

    def test_lengths_that_do_not_fit(self):
        given = function("each a, ask, end, each b, read, end")
        door = Door(end="close", cut="close")
        moves = ((0, "item"), (1, "go"), (2, "over"), (3, "item"), (4, "go"), (5, "item"), (4, "go"))
        self.assertTrue(is_certificate(given, door, ("faulty", "starved", (1, 2), moves)))
        self.assertTrue(is_certificate(given, door, ("faulty", "starved", (1, 3), moves)))
        for lengths in ((1, 1), (2, 2), (0, 2), (1,), (1, 2, 0), (1, -2), (HUGE, 2), (True, 2), [1, 2]):
            self.assertFalse(is_certificate(given, door, ("faulty", "starved", lengths, moves)))

    def test_of_other_functions_and_doors(self):
        certificate = judge(Function.of("ask", "read"), Door()).certificate
        self.assertTrue(is_certificate(Function.of("ask", "head", "body"), Door(), certificate))
        for given, door in ((Function.of("ask", "read"), Door(cut="drain")), (Function.of("ask", "shield", "read", "end"), Door()),
                            (Function.of("pause", "read"), Door()), (Function.of("begin", "finish"), Door(cut="close"))):
            self.assertFalse(is_certificate(given, door, certificate))
        self.assertTrue(is_certificate(Function.of("begin", "finish"), Door(), certificate))


class SoundTest(unittest.TestCase):

    def assert_right(self, text, entries, door=CLOSING):
        self.assertIs(is_certificate(function(text), door, ("sound", tuple(entries))), True)
        self.assertTrue(Checker(function(text), door).are_right(tuple(entries)))

    def assert_wrong(self, text, entries, door=CLOSING):
        self.assertIs(is_certificate(function(text), door, ("sound", tuple(entries))), False)
        self.assertFalse(Checker(function(text), door).are_right(tuple(entries)))

    def test_those_of_judge_and_paper(self):
        for text in SOME + HEAVY:
            given = function(text)
            paper = account(given).paper()
            shuffled = list(paper + paper[::3])
            Random(len(paper)).shuffle(shuffled)
            for entries in (paper, paper[::-1], paper + paper, tuple(shuffled)):
                self.assertIs(is_certificate(given, CLOSING, ("sound", entries)), True, text)
            for door in (Door(end="drain", fail="check", cut="ping"), CLOSING):
                self.assertIs(is_certificate(given, door, judge(given, door).certificate), True)

    def test_each_entry_is_needed(self):
        for text in SOME:
            paper = account(function(text)).paper()
            for at in range(len(paper)):
                self.assertFalse(is_certificate(function(text), CLOSING, ("sound", paper[:at] + paper[at + 1:])), text)

    def test_of_other_functions(self):
        for one, other in zip(SOME, SOME[1:]):
            paper = account(function(one)).paper()
            self.assertFalse(is_certificate(function(other), CLOSING, ("sound", paper)))
        paper = account(Function.of("ask", "pause")).paper()
        self.assertTrue(is_certificate(Function.of("ask", "pause"), CLOSING, ("sound", paper)))
        self.assertFalse(is_certificate(Function.of("ask", "shield", "pause", "end"), CLOSING, ("sound", paper)))
        self.assertFalse(is_certificate(Function.of("begin", "pause"), CLOSING, ("sound", paper)))

    def test_doors(self):
        paper = account(Function.of("ask", "read", "pause")).paper()
        for word in WORDS:
            door = Door(cut=word)
            self.assertIs(is_certificate(Function.of("ask", "read", "pause"), door, ("sound", paper)), word != "keep")
            self.assertTrue(is_certificate(Function.of("ask", "read", "pause"), single(Door(), (("cut", 1), "ping")),
                                           ("sound", paper)))
            self.assertFalse(is_certificate(Function.of("ask", "read", "pause"), single(door, (("cut", 1), "keep")),
                                            ("sound", paper)))

    def test_wider_forms(self):
        rows = "ask, pause, drain"
        first, last = entry(0, 0), [entry(3, 0), entry(3, 1, events=(("cut", 1),))]
        for low, high, drained in ((1, 1, 1), (0, 1, 1), (-7, 9, 1), (1, HUGE, 1), (-HUGE, HUGE, 1)):
            cut = entry(3, low, high, events=(("cut", 1),))
            self.assert_right(rows, [first, entry(1, low, high), entry(2, low, high), entry(3, 0), cut])
        self.assert_wrong(rows, [first, entry(1, 2, 2), entry(2, 2, 2)] + last)
        self.assert_wrong(rows, [first, entry(1, 2, 3), entry(2, 2, 3)] + last)
        self.assert_wrong(rows, [first, entry(1, 0, 0), entry(2, 0, 0)] + last)
        self.assert_wrong(rows, [first, entry(1, 0, 1), entry(2, 0, 1)] + last)
        self.assert_wrong(rows, [entry(0, 1)] + [entry(1, 1), entry(2, 1)] + last)
        self.assert_right(rows, [entry(0, -1, 1), entry(1, 0, 2), entry(2, -3, 2), entry(3, 0),
                                 entry(3, 0, 2, events=(("cut", 1),))])

    def test_low_greater_than_high(self):
        rows = "ask, read"
        paper = account(function(rows)).paper()
        cut = (("cut", 1),)
        self.assert_right(rows, paper + (entry(1, 9, -9), entry(2, 1, -5), entry(2, 9, -9, events=cut)))
        self.assert_right(rows, paper + (entry(0, 5, -5),))
        self.assert_wrong(rows, paper + (entry(1, 9, 2), entry(2, 9, -9), entry(2, 9, 1, events=cut)))
        self.assert_wrong(rows, paper + (entry(1, 0, -1), entry(2, -1, -2), entry(2, 0, -1, events=cut)))
        self.assert_wrong(rows, paper + (entry(2, 9, -9),), Door(cut="close"))
        self.assert_right(rows, paper + (entry(2, 0),), Door(cut="close"))
        self.assert_right(rows, paper + (entry(2, 9, -9, events=cut),), Door(cut="close"))

    def test_several_entries_that_cover_only_together(self):
        rows = "pause, pause"
        rest = [entry(2, -9, 9), entry(2, -9, 9, events=(("cut", 0),)), entry(2, -9, 9, events=(("cut", 1),))]
        self.assert_wrong(rows, rest + [entry(0, 0, 1), entry(1, 0), entry(1, 1)])
        self.assert_wrong(rows, rest + [entry(0, 0, 1), entry(1, 0, 0), entry(1, 1, 1), entry(1, -1, 0), entry(1, 1, 2)])
        self.assert_right(rows, rest + [entry(0, 0, 1), entry(1, 0, 0), entry(1, -1, 1)])
        rows = "pause, each a, end"
        rest = [entry(3, 0, lengths=("any",)), entry(3, 0, lengths=("any",), events=(("cut", 0),)),
                entry(0, 0, lengths=("any",)), entry(2, 0, lengths=("some",), rounds=((1, "any"),))]
        parts = [entry(1, 0, lengths=(word,)) for word in ("none", "some")]
        self.assert_wrong(rows, rest + parts)
        self.assert_right(rows, rest + [entry(1, 0, lengths=("any",))])
        self.assert_right(rows, rest + parts + [entry(1, 0, lengths=("any",))])
        self.assert_wrong(rows, [entry(0, 0, lengths=(word,)) for word in ("none", "some")] + parts + rest[:2] + rest[3:])

    def test_the_beginning(self):
        self.assert_wrong("pause", [])
        self.assert_wrong("try, finally, end", [])
        self.assert_right("try, finally, end", [entry(3, 0)], Door())
        self.assert_right("try, finally, end", [entry(3, -1, 1)])
        self.assert_wrong("try, finally, end", [entry(3, -1, 1)], Door())
        self.assert_wrong("try, finally, end", [entry(3, 1, -1)], Door(fail="close", cut="close"))
        self.assert_wrong("try, finally, end", [entry(3, 0, 0, mark="closed")])
        self.assert_wrong("try, finally, end", [entry(3, 1, 1)])
        self.assert_right("each a, end", [entry(0, 0, lengths=("any",)), entry(1, 0, lengths=("some",), rounds=((0, "any"),)),
                                          entry(2, 0, lengths=("any",))], Door())
        self.assert_wrong("each a, end", [entry(0, 0, lengths=("some",)), entry(1, 0, lengths=("some",), rounds=((0, "any"),)),
                                          entry(2, 0, lengths=("any",))], Door())

    def test_rounds(self):
        rows = "each a, maybe, ask, end, end"
        ends = [entry(0, 0, lengths=("any",)), entry(5, 0, (0, (("a", 1),)), lengths=("any",))]

        def inside(*words, low=0, high=(0, (("r0", 1),)), end_high=(1, (("r0", 1),))):
            here = [entry(row, low, high, lengths=("some",), rounds=((0, word),)) for word in words for row in (1, 2)]
            return ends + here + [entry(4, low, end_high, lengths=("some",), rounds=((0, "any"),))]

        self.assert_right(rows, inside("any"))
        self.assert_right(rows, inside("any", "first"))
        self.assert_wrong(rows, inside("first"))
        self.assert_wrong(rows, inside())
        self.assert_wrong(rows, inside("any", low=-3))
        self.assert_right(rows, inside("any", low=-3) + [entry(5, -4, (0, (("a", 1),)), lengths=("any",))])
        self.assert_right(rows, inside("any", high=(0, (("a", 1),)), end_high=(0, (("a", 1),)))[:2] +
                          inside("any", high=(0, (("r0", 1),)), end_high=(1, (("r0", 1),)))[2:])
        self.assert_wrong(rows, inside("any", high=(0, (("a", 1),)), end_high=(0, (("a", 1),))))
        self.assert_wrong(rows, inside("any", high=(0, ())))
        self.assert_wrong(rows, inside("any", high=(0, (("r0", 2),))))
        self.assert_right(rows, [entry(5, 0, (0, (("a", 2),)), lengths=("any",))] +
                          inside("any", high=(0, (("r0", 2),)), end_high=(2, (("r0", 2),))))
        self.assert_wrong(rows, inside("any", high=(0, (("r0", 2),)), end_high=(2, (("r0", 2),))))
        self.assert_wrong(rows, ends + inside("any")[2:-1] + [entry(4, 0, (1, (("r0", 1),)), lengths=("some",),
                                                                    rounds=((0, "first"),))])

    def test_the_end_of_an_each(self):
        rows = "each a, pause, end"
        paper = account(function(rows)).paper()
        for word, right in (("any", True), ("first", False), ("some", False)):
            one = entry(2, 0, lengths=("some",), rounds=((0, word),))
            self.assertIn(entry(2, 0, lengths=("some",), rounds=((0, "any"),)), paper)
            (self.assert_right if right else self.assert_wrong)(rows, paper + (one,))
            inside = entry(1, 0, lengths=("some",), rounds=((0, word),))
            (self.assert_wrong if word == "some" else self.assert_right)(rows, paper + (inside,))
        rows = "try, each a, pause, end, finally, each b, pause, end, end"
        paper = account(function(rows)).paper()
        for words in (("any", "any"), ("first", "any"), ("any", "first"), ("first", "first")):
            one = entry(7, 0, lengths=("some", "some"), rounds=((1, words[0]), (5, words[1])), events=(("cut", 2),))
            (self.assert_right if words[1] == "any" else self.assert_wrong)(rows, paper + (one,))

    def test_moves_that_an_each_does_not_have(self):
        rows = "each a, retry 1, pause, end, end"
        paper = account(function(rows)).paper()
        self.assert_right(rows, paper + (entry(0, 1, lengths=("none",)), entry(5, 1, lengths=("none",))))
        self.assert_wrong(rows, paper + (entry(0, 1, lengths=("none",)),))
        for word in ("some", "any"):
            self.assert_wrong(rows, paper + (entry(0, 1, lengths=(word,)), entry(5, 1, lengths=("none",))))
        rows = "each a, pause, end, check"
        paper = account(function(rows)).paper()
        ends = (entry(1, 1, lengths=("some",), rounds=((0, "any"),)), entry(2, 1, lengths=("some",), rounds=((0, "any"),)),
                entry(4, 1, lengths=("some",), rounds=((0, "any"),), events=(("cut", 1),)), entry(3, 1, lengths=("some",)),
                entry(4, 1, lengths=("some",)), entry(4, 1, lengths=("some",), events=(("fail", 3),)))
        self.assert_right(rows, paper + ends + (entry(0, 1, lengths=("some",)),))
        self.assert_wrong(rows, paper + ends + (entry(0, 1, lengths=("any",)),))
        self.assert_wrong(rows, paper + ends + (entry(0, 1, lengths=("none",)),))

    def test_symbols_of_only_one_of_two_forms(self):
        rows = "each a, pause, end"
        for low, right in (((1, (("a", -1),)), True), ((2, (("a", -1),)), False), ((3, (("a", -2),)), False),
                           ((2, (("a", -2),)), True), ((2, (("a", -2), ("r0", -1))), True),
                           ((2, (("a", -2), ("r0", 1))), True), ((3, (("a", -2), ("r0", -1))), False),
                           ((2, (("a", -3), ("r0", 3))), True), ((2, (("a", -2), ("r0", 3))), False)):
            high = (-low[0], tuple((symbol, -many) for symbol, many in low[1]))
            loop = [("some",), ((0, "any"),)]
            paper = [entry(0, 0, lengths=("any",)), entry(1, low, high, lengths=loop[0], rounds=loop[1]),
                     entry(2, -9, 9, lengths=loop[0], rounds=loop[1]),
                     entry(3, (0, (("a", -9),)), (0, (("a", 9),)), lengths=("any",)),
                     entry(3, low, high, lengths=loop[0], rounds=loop[1], events=(("cut", 1),))]
            self.assertIs(Checker(function(rows), CLOSING).covers(paper[1], ((1, (), ()), "whole", *loop, ZERO, ZERO)), right)
            again = [entry(2, low, high, lengths=loop[0], rounds=loop[1])]
            for entries in (paper, paper[:2] + again + paper[3:]):
                expected = Checker(function(rows), CLOSING).are_right(tuple(entries))
                self.assertIs(is_certificate(function(rows), CLOSING, ("sound", tuple(entries))), expected)
                if "r0" not in dict(low[1]):
                    self.assertIs(expected, right and entries != paper)

    def test_symbols_that_are_0(self):
        rows = "each a, return, end"
        many = (0, (("a", 9),))
        here = (0, (("r0", -9),))
        paper = [entry(0, 0, lengths=("any",)), entry(1, here, lengths=("some",), rounds=((0, "first"),)),
                 entry(3, many, lengths=("none",)), entry(3, here, lengths=("some",), rounds=((0, "first"),),
                                                          events=(("return", 1),))]
        self.assert_right(rows, paper, Door())
        self.assert_wrong(rows, paper[:2] + [entry(3, many, lengths=("any",))] + paper[3:], Door())
        in_any_round = entry(3, here, lengths=("some",), rounds=((0, "any"),), events=(("return", 1),))
        self.assert_right(rows, paper[:3] + [in_any_round])
        self.assert_wrong(rows, paper[:3] + [in_any_round], Door())
        self.assert_wrong(rows, paper[:2] + [entry(3, (1, (("a", 9),)), lengths=("none",))] + paper[3:], Door())

    def test_spots(self):
        rows = "each a, return, end, each a, pause, end"
        paper = account(function(rows)).paper()
        self.assertNotIn(4, [one[0][0] for one in paper])
        more = [entry(4, 7, 8, lengths=("some",), rounds=((3, "any"),)),
                entry(5, 7, 8, lengths=("some",), rounds=((3, "any"),)), entry(6, -9, 9, lengths=("some",)),
                entry(6, 7, 8, lengths=("some",), rounds=((3, "any"),), events=(("cut", 4),))]
        self.assert_right(rows, paper + tuple(more))
        self.assert_wrong(rows, paper + tuple(more[1:3]) + (more[0],))
        for row in (1, 2, 7, -1, HUGE):
            self.assert_wrong(rows, paper + (entry(row, 0, lengths=("some",)),))
        self.assert_wrong(rows, paper + (entry(4, 0, lengths=("some",), rounds=((3, "any"),), events=(("cut", 4),)),))
        self.assert_wrong(rows, paper + (entry(4, 0, lengths=("some",), rounds=((3, "any"),), tries=(1,)),))

    def test_how_entries_are_written(self):
        rows = "try, each b, ask, pause, end, finally, each a, pause, end, end, drain"
        paper = account(function(rows)).paper()
        spot = (7, (), (("cut", 3),))
        at = [one[0] for one in paper].index(spot)
        right = paper[at]
        self.assertEqual(right, (spot, "whole", ("some", "some"), ((1, "any"), (6, "any")), (1, (("r1", 1),)),
                                 (1, (("r1", 1),))))
        for place, part in ((1, "Whole"), (1, "in"), (1, None), (2, ("some",)), (2, ("some", "some", "any")), (2, "some"),
                            (2, ("some", "any")), (2, ("any", "some")), (2, ("none", "some")), (2, ("some", "first")),
                            (2, ["some", "some"]), (3, ((1, "any"),)), (3, ((6, "any"), (1, "any"))), (3, ()),
                            (3, ((1, "any"), (1, "any"), (6, "any"))), (3, ((1, "some"), (6, "any"))),
                            (3, ((1, "any", 0), (6, "any"))), (3, ((True, "any"), (6, "any"))), (3, ((1, "any"), (5, "any"))),
                            (3, ([1, "any"], (6, "any"))), (3, [(1, "any"), (6, "any")]), (3, {1: "any", 6: "any"}),
                            (4, (1, (("r1", 1), ("a", 1)))), (4, (1, (("r1", 1), ("r1", 1)))), (4, (1, (("r1", 0),))),
                            (4, (1, (("r1", True),))), (4, (1, (("r2", 1),))), (4, (True, (("r1", 1),))),
                            (4, (1, (("r01", 1),))), (4, (1, (("c", 1),))), (4, (1, (("", 1),))), (4, (1, ((1, 1),))),
                            (4, (1, (((), 1),))), (4, (1, (([], 1),))), (4, (1, ("r1", 1))), (4, (1, [("r1", 1)])),
                            (4, [1, (("r1", 1),)]), (4, (1, (("r1", 1, 1),))), (4, (1,)), (4, 1), (4, (1, (("r1", None),))),
                            (4, ("1", ())), (4, (None, ())), (4, (1, (("r1", 1),), ()))):
            wrong = right[:place] + (part,) + right[place + 1:]
            self.assert_wrong(rows, paper[:at] + (wrong,) + paper[at + 1:])
            self.assert_wrong(rows, paper + (wrong,))
        for wide in ((-5, (("a", -1), ("b", -2), ("r1", -3), ("r6", -HUGE))), (0, (("r1", 1),)), (1, ()), (-HUGE, ())):
            self.assertTrue(Checker(function(rows), CLOSING).is_entry(right[:4] + (wide,) + right[5:]))
            self.assert_wrong(rows, paper[:at] + (right[:4] + (wide,) + right[5:],) + paper[at + 1:])

    def test_closed_marks(self):
        rows = "close, pause"
        paper = account(function(rows)).paper()
        cut = (("cut", 1),)
        self.assert_right(rows, paper, Door())
        for low, high in ((1, 1), (-1, 0), (0, 1)):
            self.assert_wrong(rows, paper + (entry(1, low, high, mark="closed"),))
            self.assert_wrong(rows, paper[:1] + (entry(1, low, high, mark="closed"), entry(2, low, high, mark="closed"),
                                                 entry(2, low, high, mark="closed", events=cut)))
        self.assert_wrong(rows, [entry(0, 0), entry(1, 0), entry(2, 0), entry(2, 0, events=cut)])
        for nothing in ((False, ()), (0, []), [0, ()], (0,), (0, (), ()), 0, None, ((), 0)):
            self.assert_wrong(rows, paper + ((paper[1][:4] + (nothing, ZERO)),))
            self.assert_wrong(rows, paper + ((paper[1][:4] + (ZERO, nothing)),))
            self.assert_wrong(rows, paper[:1] + ((paper[1][:4] + (ZERO, nothing)),) + paper[2:])
        self.assert_right("drain", [entry(0, 0), entry(1, 0), entry(0, 0, mark="closed"), entry(1, 0, mark="closed")], Door())
        for row in ("ask", "begin", "finish", "read", "head", "body"):
            self.assert_wrong(row, [entry(0, 0, mark="closed")])

    def test_marks(self):
        behind = {"begin": {"whole": "out", "in": "both"}, "finish": {"out": "whole", "both": "in"},
                  "head": {"whole": "in", "out": "both"}, "body": {"in": "whole", "both": "out"}}
        for rows, marks, by in (("ask", ("whole", "in"), 1), ("begin", ("whole", "in"), 0), ("begin, finish", ("out", "both"), 1),
                                ("ask, read", ("whole", "out"), -1), ("ask, head", ("whole", "out"), 0),
                                ("ask, head, body", ("in", "both"), -1)):
            paper = account(function(rows)).paper()
            last = rows.count(",")
            word = function(rows).rows[last]
            for mark in ("whole", "out", "in", "both"):
                after = behind.get(word, {}).get(mark, mark)
                more = (entry(last, 3, 5, mark=mark), entry(last + 1, 3 + by, 5 + by, mark=after))
                if word not in ("ask", "begin"):
                    more += (entry(last + 1, 3, 5, mark=mark, events=(("cut", last),)),)
                if mark in marks:
                    self.assert_right(rows, paper + more)
                    for other in ("whole", "out", "in", "both", "closed"):
                        if other != after:
                            wrong = (more[0], more[1][:1] + (other,) + more[1][2:]) + more[2:]
                            self.assert_wrong(rows, paper[:-1] + wrong)
                    self.assert_wrong(rows, paper + (more[0],) + more[2:])
                    self.assert_wrong(rows, paper + more[:1] + (entry(last + 1, 4 + by, 5 + by, mark=after),) + more[2:])
                    self.assert_wrong(rows, paper + more[:1] + (entry(last + 1, 3 + by, 4 + by, mark=after),) + more[2:])
                else:
                    self.assert_wrong(rows, paper + more)

    def test_starving(self):
        for row in ("read", "head"):
            rows = f"ask, {row}, drain"
            paper = account(function(rows)).paper()
            many = -1 if row == "read" else 0
            mark = "whole" if row == "read" else "in"
            for low in (-1, 0, 1, 2):
                more = (entry(1, low, 7), entry(2, low + many, 7 + many, mark=mark), entry(3, low, 7, events=(("cut", 1),)))
                if low < 1:
                    self.assert_wrong(rows, paper + more)
                else:
                    self.assert_right(rows, paper + more)
        rows = "each a, ask, end, each a, read, end"
        paper = list(account(function(rows)).paper())
        at = [one[0][0] for one in paper].index(4)
        for low in ((0, (("a", 1), ("r3", -2))), (-1, (("a", 1), ("r3", -1))), (0, (("a", 1), ("r3", -1), ("r9", 1)))):
            self.assert_wrong(rows, paper + [paper[at][:4] + (low, paper[at][5])])

    def test_retries(self):
        rows = "retry 2, pause, ask, read, check, end"
        paper = account(function(rows)).paper()
        self.assert_right(rows, paper)
        for number_of_try in (1, 2):
            for low, high in ((0, 1), (-1, 0), (1, 1), (1, -1)):
                self.assert_wrong(rows, paper + (entry(0, low, high, tries=(number_of_try,)),))
                self.assert_right(rows, paper + (entry(6, low, high),))
            self.assert_wrong(rows, paper + (entry(0, 0, mark="in", tries=(number_of_try,)),))
            self.assert_wrong(rows, paper + (entry(0, 0, mark="closed", tries=(number_of_try,)),))
        extra = entry(4, 0, 1, tries=(1,))
        self.assert_wrong(rows, paper + (extra, entry(6, -9, 9), entry(6, -9, 9, events=(("fail", 4),))))
        extra = entry(4, 0, 1, tries=(2,))
        self.assert_right(rows, paper + (extra, entry(6, -9, 9), entry(6, -9, 9, events=(("fail", 4),))))

    def test_a_retry_begins_anew(self):
        rows = "each a, retry 2, try, ask, check, read, rescue, drain, end, end, end"
        paper = account(function(rows)).paper()
        self.assert_right(rows, paper)
        spots = [one[0] for one in paper]
        again = paper[spots.index((1, (2,), ()))]
        self.assertEqual(again[2:], (("some",), ((0, "any"),), ZERO, ZERO))
        rows = "retry 2, try, each a, ask, check, end, each a, read, end, rescue, drain, end, end"
        paper = account(function(rows)).paper()
        self.assert_right(rows, paper)
        at = [one[0] for one in paper].index((0, (2,), ()))
        self.assertEqual(paper[at][3:], ((), ZERO, ZERO))
        self.assertEqual(paper[at][2], ("some",))
        for words in (("none",), ("any",)):
            found = paper[:at] + (paper[at][:2] + (words,) + paper[at][3:],) + paper[at + 1:]
            self.assertIs(is_certificate(function(rows), CLOSING, ("sound", found)), Checker(function(rows), CLOSING).are_right(found))


class AnyValueTest(unittest.TestCase):

    def test_any_value(self):
        for given in (Function("ask"), function("each a, pause, end"), function("try, finally, end")):
            for thing in ANY_VALUES:
                self.assertIs(is_certificate(given, Door(), thing), False)
                self.assertIs(is_certificate(given, CLOSING, ("sound", thing)), False)
                self.assertIs(is_certificate(given, CLOSING, ("sound", (thing,))), False)
                self.assertIs(is_certificate(given, CLOSING, ("faulty", thing, (), ())), False)

    def test_all_changes(self):
        for text in ("ask, pause", "each a, ask, end, drain", "retry 2, check, end", "each a, return, end"):
            given = function(text)
            checker = Checker(given, CLOSING)
            certificate = judge(given, CLOSING).certificate
            accepted = 0
            for thing in all_changes(certificate):
                is_paper = thing.__class__ is tuple and len(thing) == 2 and thing[0] == "sound" and thing[1].__class__ is tuple
                expected = is_paper and checker.are_right(thing[1])
                self.assertIs(is_certificate(given, CLOSING, thing), expected, thing)
                accepted += expected
            self.assertGreater(accepted, 0)

    def test_changes_of_some_functions(self):
        chance = Random(28)
        accepted = 0
        for given in likely_functions(28, 120):
            door = some_doors(chance)
            try:
                paper = account(given).paper()
            except Faulty:
                continue
            if len(paper) > 20:
                continue
            checker = Checker(given, door)
            self.assertIs(is_certificate(given, door, ("sound", paper)), checker.are_right(paper))
            for entries in self.some_changes(chance, paper):
                expected = checker.are_right(entries)
                self.assertIs(is_certificate(given, door, ("sound", entries)), expected, (given.rows, entries))
                accepted += expected
        self.assertGreater(accepted, 100)

    def some_changes(self, chance, paper):
        """The entries with wider or narrower forms, other words, parted and left out."""
        for by in (1, 2):
            yield tuple(self.wider(one, by, by) for one in paper)
            yield tuple(self.wider(one, 0, by) for one in paper)
            yield tuple(self.wider(one, by, 0) for one in paper)
            yield paper + tuple(self.wider(one, by, -by) for one in paper)
            yield paper + tuple(self.wider(one, -by, -by) for one in paper)
        changes = list(all_changes(paper))
        yield from (thing for thing in chance.sample(changes, 30) if thing.__class__ is tuple)
        for _ in range(10):
            at = chance.randrange(len(paper))
            one = self.wider(paper[at], chance.randint(-1, 2), chance.randint(-1, 2))
            yield paper[:at] + (one,) + paper[at + 1:]
            yield paper + (one,)
            for words in (("none",), ("some",), ("none", "some"), ("any",)):
                if one[2]:
                    parts = tuple(paper[at][:2] + ((word,) + one[2][1:],) + paper[at][3:] for word in words)
                    yield paper[:at] + parts + paper[at + 1:]

    def wider(self, one, below, above):
        if one[1] == "closed":
            return one
        (low, low_pairs), (high, high_pairs) = one[4:]
        return one[:4] + ((low - below, low_pairs), (high + above, high_pairs))


class LargeTest(unittest.TestCase):

    def test_many_entries(self):
        rows = "pause, pause"
        given = function(rows)
        spots = [(0, (), ()), (1, (), ()), (2, (), ()), (2, (), (("cut", 0),)), (2, (), (("cut", 1),))]
        steps = tuple((spot, "whole", (), (), number(-many), number(many)) for many in range(500) for spot in spots)
        self.assertTrue(is_certificate(given, CLOSING, ("sound", steps)))
        self.assertTrue(is_certificate(given, CLOSING, ("sound", steps[::-1])))
        single_steps = tuple((spot, "whole", (), (), number(many), number(many)) for many in range(500) for spot in spots)
        self.assertTrue(is_certificate(given, CLOSING, ("sound", single_steps)))
        lone = tuple((spot, "whole", (), (), number(many), number(many)) for spot in spots
                     for many in range(500, 500 + 400 * (spot[0] < 2)))
        self.assertFalse(is_certificate(given, CLOSING, ("sound", single_steps + lone)))
        crossing = tuple((spot, "whole", (), (), number(many - 900 * (spot != spots[0])), number(many)) for many in range(500)
                         for spot in spots)
        self.assertTrue(is_certificate(given, CLOSING, ("sound", crossing)))

    def test_large_numbers(self):
        given = function("each a, maybe, ask, end, end")
        big = 10 ** 59
        ends = [((5, (), ()), "whole", ("any",), (), (-big, (("a", -2 * big),)), (big, (("a", 2 * big),)))]
        ends += [((0, (), ()), "whole", ("any",), (), ZERO, ZERO)]
        low, high = (-big, (("a", -big), ("r0", -big))), (big, (("a", big), ("r0", big)))
        inside = [((row, (), ()), "whole", ("some",), ((0, "any"),), low, high) for row in (1, 2, 4)]
        self.assertFalse(is_certificate(given, CLOSING, ("sound", tuple(ends + inside))))
        more = inside[:2] + [inside[2][:5] + ((big + 1, high[1]),)]
        self.assertTrue(is_certificate(given, CLOSING, ("sound", tuple(ends + more))))
        self.assertTrue(Checker(given, CLOSING).are_right(tuple(ends + more)))
        self.assertFalse(is_certificate(given, CLOSING, ("sound", tuple(ends + more) + (ends[0][:4] + (high, low),))))


if __name__ == "__main__":
    unittest.main()
