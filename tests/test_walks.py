"""[17] to [22], [2] and the class Walk of the section owedanswers/runs.py, with spots that are written out."""

import unittest

from owedanswers.errors import BadMove
from owedanswers.functions import Function
from owedanswers.runs import Walk

BIG = 10 ** 50
BAD_MOVES = [None, True, False, 0, 1, "", "Go", "go ", "cuts", "g", "stop", [], ["go"], ("go",), (0, "go"), {"go": 1},
             {}, ((((("go",),),),),), "~" * 2000, -BIG]


def walked(rows, moves, **lengths):
    """The run of some rows with these moves, in one string."""
    walk = Walk(Function("\n".join(rows.split(", "))), lengths)
    for move in moves.split():
        walk.step(move)
    return walk


def seen(walk):
    """All that can be seen of a run."""
    return (walk.spot, walk.mark, walk.owed, walk.way, walk.fault, walk.is_over, walk.asked, walk.taken, walk.report,
            walk.done(), walk.choices(), walk.steps)


class WalkCase(unittest.TestCase):

    def assert_bad_move(self, walk, move):
        before = seen(walk)
        with self.assertRaises(BadMove) as caught:
            walk.step(move)
        self.assertEqual(caught.exception.at, len(walk.steps))
        self.assertEqual(seen(walk), before)

    def assert_spots(self, rows, moves, spots, **lengths):
        """The spots behind these moves, the first one before them."""
        walk = walked(rows, "", **lengths)
        found = [walk.spot]
        for move in moves.split():
            walk.step(move)
            found.append(walk.spot)
        self.assertEqual(found, spots)
        return walk


class BasicsTest(WalkCase):

    def test_defined_in_this_file(self):
        self.assertEqual(Walk.__module__, "owedanswers.runs")
        for name in ("done", "choices", "step", "copy"):
            self.assertIn(name, vars(Walk))

    def test_at_the_beginning(self):
        self.assertEqual(seen(Walk(Function("ask"), {})),
                         ((0, (), ()), "whole", 0, None, None, False, 0, 0, None, (), ["go"], ()))
        walk = Walk(function=Function("each a\nend"), lengths={"a": 1})
        self.assertEqual((walk.spot, walk.choices()), ((0, (), ()), ["item"]))
        self.assertIs(walk.step(move="item"), True)

    def test_example(self):
        spots = [(1, (), ()), (2, (), ()), (3, (), ()), (4, (), ()), (2, (), ()), (3, (), ()),
                 (6, (), (("cut", 3),)), (8, (), (("cut", 3),))]
        walk = walked("try, each a, ask, read, end, finally, drain, end", "", a=2)
        done = []
        for at, move in enumerate("item go go item go cut go".split()):
            self.assertEqual(walk.spot, spots[at])
            done.append(walk.done())
            self.assertIs(walk.step(move), at < 6)
        self.assertEqual(walk.spot, spots[7])
        self.assertEqual(done + [walk.done()], [()] + [((1, 0),)] * 3 + [((1, 1),)] * 4)
        self.assertEqual((walk.way, walk.report, walk.is_over), (("cut", 3), ("cut", 2, 1), True))

    def test_without_step_rows(self):
        for rows in ("try, finally, end", "try, rescue, end", "shield, end", "shield, try, shield, end, rescue, end, end"):
            walk = walked(rows, "")
            end = len(rows.split(", "))
            self.assertEqual(seen(walk), ((end, (), ()), "whole", 0, (), None, True, 0, 0, ("end", 0, 0), (), [], ()))
            self.assert_bad_move(walk, "go")

    def test_step_tells_whether_the_run_goes_on(self):
        walk = walked("ask, read, return, ask", "")
        self.assertEqual([walk.step("go"), walk.step("go"), walk.step("go")], [True, True, False])
        self.assertEqual((walk.way, walk.report), (("return", 2), ("end", 1, 1)))
        self.assertIs(walked("read", "").step("go"), False)
        self.assertIs(walked("read", "").step("cut"), False)
        self.assertIs(walked("pause, pause", "").step("go"), True)

    def test_ways_and_reports(self):
        cases = [("ask", "go", (), ("end", 1, 0)), ("return", "go", ("return", 0), ("end", 0, 0)),
                 ("ask, check", "go fail", ("fail", 1), ("fail", 1, 0)), ("ask, read", "go cut", ("cut", 1), ("cut", 1, 0)),
                 ("begin, finish, head, body", "go go go go", (), ("end", 1, 1)),
                 ("begin, finish, head, body", "go cut", ("cut", 1), ("cut", 0, 0)),
                 ("begin, finish, head, body", "go go go cut", ("cut", 3), ("cut", 1, 0))]
        for rows, moves, way, report in cases:
            walk = walked(rows, moves)
            self.assertEqual((walk.way, walk.report, walk.is_over, walk.fault), (way, report, True, None))
            self.assertEqual(walk.spot, (len(rows.split(", ")), (), (way,) if way else ()))

    def test_arguments_stay(self):
        lengths = {"a": 2, "zz": 7}
        function = Function("each a\nask\nend")
        walk = Walk(function, lengths)
        for move in "item go item go over".split():
            walk.step(move)
        self.assertEqual((lengths, function.rows), ({"a": 2, "zz": 7}, ("each a", "ask", "end")))
        walk = Walk(function, lengths)
        lengths["a"] = 0
        self.assertEqual(walk.choices(), ["item"])

    def test_equal_to_nothing_else(self):
        walk = walked("ask", "")
        for other in (None, 0, (0, (), ()), "whole", []):
            self.assertFalse(walk == other)


class MovesTest(WalkCase):

    def test_choices_of_each_row(self):
        for row in ("read", "head", "body", "finish", "pause"):
            self.assertEqual(walked(row, "").choices(), ["cut", "go"])
            self.assertEqual(walked(f"shield, {row}, end", "").choices(), ["go"])
            self.assertEqual(walked(f"shield, maybe, {row}, end, end", "yes").choices(), ["go"])
        for row in ("ask", "begin", "drain", "close", "return"):
            self.assertEqual(walked(row, "").choices(), ["go"])
        self.assertEqual(walked("check", "").choices(), ["fail", "go"])
        self.assertEqual(walked("shield, check, end", "").choices(), ["fail", "go"])
        self.assertEqual(walked("maybe, end", "").choices(), ["no", "yes"])
        self.assertEqual(walked("retry 2, end", "").choices(), ["go"])

    def test_loops(self):
        self.assertEqual(walked("each a, end", "").choices(), ["over"])
        self.assertEqual(walked("each a, end", "", b=5).choices(), ["over"])
        self.assertEqual(walked("each a, end", "", a=0).choices(), ["over"])
        self.assertEqual(walked("each a, end", "", a=1).choices(), ["item"])
        self.assertEqual(walked("each a, end", "item", a=1).choices(), ["over"])
        self.assertEqual(walked("each a, end", "item", a=2).choices(), ["item"])
        self.assertEqual(walked("each a, end", "item item", a=2).choices(), ["over"])
        walk = walked("each a, end, ask", "item item over", a=2)
        self.assertEqual((walk.spot, walk.done(), walk.steps), ((2, (), ()), (), ((0, "item"), (1, "item"), (1, "over"))))

    def test_loop_spots(self):
        self.assert_spots("each a, ask, end, each b, end", "item go over over",
                          [(0, (), ()), (1, (), ()), (2, (), ()), (3, (), ()), (5, (), ())], a=1)
        self.assert_spots("each a, ask, end, each b, end", "over item item over",
                          [(0, (), ()), (3, (), ()), (4, (), ()), (4, (), ()), (5, (), ())], b=2)

    def test_further_keys_and_lists_without_a_key(self):
        self.assertEqual(walked("each a, end, each b, end", "", b=1, c=4, zzz=9).choices(), ["over"])
        walk = walked("each a, end, each b, end", "over item over", b=1, c=4)
        self.assertEqual(walk.way, ())

    def test_done(self):
        walk = walked("each a, ask, end, pause", "", a=3)
        found = []
        for move in "item go item go item go over".split():
            walk.step(move)
            found.append(walk.done())
        self.assertEqual(found, [((0, 0),)] * 2 + [((0, 1),)] * 2 + [((0, 2),)] * 2 + [()])

    def test_lists_with_very_many_items(self):
        walk = walked("each a, ask, end, pause", "", a=BIG)
        for number in range(600):
            self.assertEqual((walk.choices(), walk.owed), (["item"], number))
            walk.step("item")
            walk.step("go")
        self.assertEqual((walk.done(), walk.spot), (((0, 599),), (2, (), ())))
        walk = walked("each a, pause, end", "item go item cut", a=BIG)
        self.assertEqual((walk.way, walk.done()), (("cut", 1), ((0, 1),)))

    def test_some_thousand_steps(self):
        walk = walked("each a, ask, read, end", "", a=700)
        while not walk.is_over:
            walk.step(walk.choices()[-1])
        self.assertEqual((len(walk.steps), walk.report), (2101, ("end", 700, 700)))

    def test_maybe(self):
        self.assert_spots("maybe, ask, else, pause, end, check", "yes go",
                          [(0, (), ()), (1, (), ()), (5, (), ())])
        self.assert_spots("maybe, ask, else, pause, end, check", "no go",
                          [(0, (), ()), (3, (), ()), (5, (), ())])
        self.assert_spots("maybe, ask, end, check", "no", [(0, (), ()), (3, (), ())])
        self.assert_spots("maybe, else, ask, end, check", "yes", [(0, (), ()), (4, (), ())])
        self.assert_spots("maybe, else, ask, end, check", "no", [(0, (), ()), (2, (), ())])
        self.assert_spots("maybe, ask, else, end, check", "no", [(0, (), ()), (4, (), ())])
        self.assert_spots("maybe, end", "yes", [(0, (), ()), (2, (), ())])

    def test_empty_groups_and_rows_without_a_step(self):
        self.assert_spots("shield, end, try, finally, end, try, rescue, pause, end, check", "go",
                          [(9, (), ()), (10, (), ())])
        self.assert_spots("maybe, shield, try, rescue, end, end, else, end, check", "yes", [(0, (), ()), (8, (), ())])
        self.assert_spots("retry 2, end, check", "go", [(0, (1,), ()), (2, (), ())])
        self.assert_spots("each a, shield, end, end", "item over", [(0, (), ()), (3, (), ()), (4, (), ())], a=1)

    def test_impossible_moves(self):
        cases = [("ask", ""), ("pause", ""), ("shield, read, end", ""), ("check", ""), ("maybe, end", ""),
                 ("each a, end", ""), ("each a, end", "item"), ("retry 2, end", ""), ("ask", "go"), ("read", "go"),
                 ("return", ""), ("pause, pause", "go"), ("pause", "cut")]
        for rows, moves in cases:
            walk = walked(rows, moves, a=1)
            for move in ["go", "cut", "fail", "item", "over", "yes", "no"] + BAD_MOVES:
                if move not in walk.choices():
                    self.assert_bad_move(walk, move)
            for move in walk.choices():
                copy = walk.copy()
                copy.step(move)
                self.assertEqual(copy.steps[-1], (walk.spot[0], move))

    def test_bad_moves_count_the_steps(self):
        walk = walked("pause, pause, read, pause", "go go go")
        with self.assertRaises(BadMove) as caught:
            walk.step("go")
        self.assertEqual((caught.exception.at, walk.fault, walk.steps[-1]), (3, "starved", (2, "go")))

    def test_returned_lists_are_new(self):
        walk = walked("check, check", "")
        walk.choices().append("cut")
        walk.choices().remove("go")
        self.assertEqual(walk.choices(), ["fail", "go"])
        for value in (walk.done(), walk.steps, walk.spot):
            self.assertIs(value.__class__, tuple)
        self.assertIs(walk.choices().__class__, list)


class CopyTest(WalkCase):

    def test_copy_at_each_step(self):
        rows = "retry 2, try, each a, begin, finish, head, body, end, check, finally, pause, end, end"
        moves = "go item go go go go item go go go go over fail cut"
        walk = walked(rows, "", a=2)
        for move in moves.split():
            copy = walk.copy()
            self.assertIsInstance(copy, Walk)
            self.assertIsNot(copy, walk)
            self.assertEqual(seen(copy), seen(walk))
            before = seen(copy)
            walk.step(move)
            self.assertEqual(seen(copy), before)
            copy.step(move)
            self.assertEqual(seen(copy), seen(walk))
        copy = walk.copy()
        self.assertEqual(seen(copy), seen(walk))
        self.assertEqual((copy.way, copy.report), (("cut", 10), ("cut", 2, 2)))

    def test_copies_share_nothing(self):
        walk = walked("each a, ask, pause, end", "item go", a=3)
        one, other = walk.copy(), walk.copy()
        one.step("cut")
        other.step("go")
        other.step("item")
        self.assertEqual((walk.spot, one.way, other.done(), walk.done()), ((2, (), ()), ("cut", 2), ((0, 1),), ((0, 0),)))
        self.assertEqual([len(each.steps) for each in (walk, one, other)], [2, 3, 4])

    def test_copy_of_a_run_that_is_over(self):
        for rows, moves in (("read", "go"), ("ask, body", "go go"), ("ask", "go"), ("pause", "cut"), ("try, finally, end", "")):
            walk = walked(rows, moves)
            copy = walk.copy()
            self.assertEqual(seen(copy), seen(walk))
            self.assert_bad_move(copy, "go")


class EventsTest(WalkCase):

    def test_finally(self):
        rows = "try, pause, check, return, finally, pause, end, ask"
        cut, fail, back = ("cut", 1), ("fail", 2), ("return", 3)
        self.assert_spots(rows, "cut go", [(1, (), ()), (5, (), (cut,)), (8, (), (cut,))])
        self.assert_spots(rows, "go fail go", [(1, (), ()), (2, (), ()), (5, (), (fail,)), (8, (), (fail,))])
        self.assert_spots(rows, "go go go go",
                          [(1, (), ()), (2, (), ()), (3, (), ()), (5, (), (back,)), (8, (), (back,))])

    def test_finally_after_the_end_of_the_guarded_part(self):
        self.assert_spots("try, pause, finally, check, end, ask", "go go go",
                          [(1, (), ()), (3, (), ()), (5, (), ()), (6, (), ())])
        self.assert_spots("try, finally, check, end, ask", "go go", [(2, (), ()), (4, (), ()), (5, (), ())])
        self.assert_spots("try, finally, check, end, ask", "fail", [(2, (), ()), (5, (), (("fail", 2),))])

    def test_rescue(self):
        rows = "try, pause, check, return, rescue, pause, end, ask"
        cut, fail, back = ("cut", 1), ("fail", 2), ("return", 3)
        self.assert_spots(rows, "cut go", [(1, (), ()), (5, (), (cut,)), (8, (), (cut,))])
        self.assert_spots(rows, "go fail go", [(1, (), ()), (2, (), ()), (5, (), (fail,)), (8, (), (fail,))])
        self.assert_spots(rows, "go go go", [(1, (), ()), (2, (), ()), (3, (), ()), (8, (), (back,))])
        self.assert_spots("try, pause, rescue, check, end, ask", "go go", [(1, (), ()), (5, (), ()), (6, (), ())])

    def test_new_event_takes_the_place_of_the_earlier_one(self):
        for middle in ("finally", "rescue"):
            rows = f"try, pause, {middle}, check, pause, end, ask"
            cut = ("cut", 1)
            self.assert_spots(rows, "cut fail", [(1, (), ()), (3, (), (cut,)), (7, (), (cut, ("fail", 3)))])
            self.assert_spots(rows, "cut go cut",
                              [(1, (), ()), (3, (), (cut,)), (4, (), (cut,)), (7, (), (cut, ("cut", 4)))])
            walk = walked(rows, "cut fail")
            self.assertEqual((walk.way, walk.report), (("fail", 3), ("fail", 0, 0)))

    def test_events_inside_second_parts(self):
        rows = "try, pause, finally, try, check, finally, pause, end, ask, end"
        cut = ("cut", 1)
        self.assert_spots(rows, "cut go go go",
                          [(1, (), ()), (4, (), (cut,)), (6, (), (cut,)), (8, (), (cut,)), (10, (), (cut,))])
        self.assert_spots(rows, "cut fail go", [(1, (), ()), (4, (), (cut,)), (6, (), (cut, ("fail", 4))),
                                                (10, (), (cut, ("fail", 4)))])
        self.assert_spots(rows, "cut fail cut", [(1, (), ()), (4, (), (cut,)), (6, (), (cut, ("fail", 4))),
                                                 (10, (), (cut, ("fail", 4), ("cut", 6)))])
        # An event from outside does not count for a try in a second part.
        rows = "try, pause, finally, try, ask, rescue, pause, end, close, end"
        self.assert_spots(rows, "cut go go", [(1, (), ()), (4, (), (cut,)), (8, (), (cut,)), (10, (), (cut,))])

    def test_five_deep(self):
        rows = "try, try, try, try, try, check, finally, ask, end, rescue, ask, end, finally, ask, end, rescue, ask, end, " \
               "finally, ask, end, ask"
        fail = (("fail", 5),)
        self.assert_spots(rows, "fail go go go go go", [(5, (), ()), (7, (), fail), (10, (), fail), (13, (), fail),
                                                        (16, (), fail), (19, (), fail), (22, (), fail)])
        self.assert_spots(rows, "go go go go go", [(5, (), ()), (7, (), ()), (13, (), ()), (19, (), ()), (21, (), ()),
                                                   (22, (), ())])

    def test_loops_are_left_together_with_their_items(self):
        walk = self.assert_spots("each a, pause, end, ask", "item go item cut",
                                 [(0, (), ()), (1, (), ()), (2, (), ()), (1, (), ()), (4, (), (("cut", 1),))], a=9)
        self.assertEqual(walk.done(), ((0, 1),))
        walk = self.assert_spots("each a, return, end, ask", "item go",
                                 [(0, (), ()), (1, (), ()), (4, (), (("return", 1),))], a=9)
        self.assertEqual(walk.done(), ((0, 0),))

    def test_live_loops_of_events(self):
        rows = "try, each a, check, end, finally, each b, pause, end, end"
        walk = walked(rows, "item go item fail item go item", a=3, b=3)
        self.assertEqual((walk.spot, walk.done()), ((6, (), (("fail", 2),)), ((1, 1), (5, 1))))
        walk.step("cut")
        self.assertEqual((walk.spot, walk.done()), ((9, (), (("fail", 2), ("cut", 6))), ((1, 1), (5, 1))))
        walk = walked(rows, "item go item fail item go over", a=3, b=1)
        self.assertEqual((walk.way, walk.done()), (("fail", 2), ((1, 1),)))
        walk = walked(rows, "item go over item go", a=1, b=3)
        self.assertEqual((walk.spot, walk.done()), ((7, (), ()), ((5, 0),)))

    def test_one_loop_for_the_spot_and_an_event(self):
        walk = walked("each a, try, pause, finally, check, end, end", "item go go item cut", a=3)
        self.assertEqual((walk.spot, walk.done(), walk.choices()), ((4, (), (("cut", 2),)), ((0, 1),), ["fail", "go"]))

    def test_same_list_in_two_live_loops(self):
        walk = walked("try, each a, check, end, finally, each a, pause, end, end", "item go item fail item", a=2)
        self.assertEqual(walk.done(), ((1, 1), (5, 0)))


class RetryTest(WalkCase):

    def test_tries(self):
        fail = ("fail", 1)
        for many, spots in ((1, [(0, (1,), ()), (1, (1,), ()), (3, (), (fail,))]),
                            (2, [(0, (1,), ()), (1, (1,), ()), (0, (2,), ()), (1, (2,), ()), (3, (), (fail,))]),
                            (3, [(0, (1,), ()), (1, (1,), ()), (0, (2,), ()), (1, (2,), ()), (0, (3,), ()), (1, (3,), ()),
                                 (3, (), (fail,))])):
            walk = self.assert_spots(f"retry {many}, check, end", "go fail " * many, spots)
            self.assertEqual(walk.way, fail)

    def test_only_failures_begin_another_try(self):
        self.assert_spots("retry 3, pause, end, ask", "go cut", [(0, (1,), ()), (1, (1,), ()), (4, (), (("cut", 1),))])
        self.assert_spots("retry 3, return, end", "go go", [(0, (1,), ()), (1, (1,), ()), (3, (), (("return", 1),))])
        self.assert_spots("retry 3, check, end, ask", "go fail go go go",
                          [(0, (1,), ()), (1, (1,), ()), (0, (2,), ()), (1, (2,), ()), (3, (), ()), (4, (), ())])

    def test_within_one_another(self):
        rows = "retry 2, retry 2, check, end, end"
        self.assert_spots(rows, "go go fail go fail go go fail go fail", [
            (0, (1,), ()), (1, (1, 1), ()), (2, (1, 1), ()), (1, (1, 2), ()), (2, (1, 2), ()), (0, (2,), ()),
            (1, (2, 1), ()), (2, (2, 1), ()), (1, (2, 2), ()), (2, (2, 2), ()), (5, (), (("fail", 2),))])

    def test_one_after_the_other(self):
        self.assert_spots("retry 2, check, end, retry 2, check, end", "go fail go go go fail go go", [
            (0, (1,), ()), (1, (1,), ()), (0, (2,), ()), (1, (2,), ()), (3, (1,), ()), (4, (1,), ()), (3, (2,), ()),
            (4, (2,), ()), (6, (), ())])

    def test_around_a_try(self):
        fail = ("fail", 2)
        self.assert_spots("retry 2, try, check, finally, pause, end, end", "go fail go go fail go", [
            (0, (1,), ()), (2, (1,), ()), (4, (1,), (fail,)), (0, (2,), ()), (2, (2,), ()), (4, (2,), (fail,)),
            (7, (), (fail,))])
        # The failure takes the place of the cut, so another try begins.
        self.assert_spots("retry 2, try, pause, finally, check, end, end", "go cut fail go cut go", [
            (0, (1,), ()), (2, (1,), ()), (4, (1,), (("cut", 2),)), (0, (2,), ()), (2, (2,), ()),
            (4, (2,), (("cut", 2),)), (7, (), (("cut", 2),))])
        # The cut takes the place of the failure.
        self.assert_spots("retry 2, try, check, finally, pause, end, end", "go fail cut", [
            (0, (1,), ()), (2, (1,), ()), (4, (1,), (fail,)), (7, (), (fail, ("cut", 4)))])

    def test_inside_a_guarded_part(self):
        fail = ("fail", 2)
        self.assert_spots("try, retry 2, check, end, finally, ask, end", "go fail go fail go", [
            (1, (1,), ()), (2, (1,), ()), (1, (2,), ()), (2, (2,), ()), (5, (), (fail,)), (7, (), (fail,))])
        self.assert_spots("try, retry 2, check, end, finally, ask, end", "go fail go go go", [
            (1, (1,), ()), (2, (1,), ()), (1, (2,), ()), (2, (2,), ()), (5, (), ()), (7, (), ())])

    def test_inside_a_second_part(self):
        rows = "try, pause, finally, retry 2, check, end, ask, end, ask"
        cut = ("cut", 1)
        # The earlier event is still under way.
        self.assert_spots(rows, "cut go fail go go go", [
            (1, (), ()), (3, (1,), (cut,)), (4, (1,), (cut,)), (3, (2,), (cut,)), (4, (2,), (cut,)), (6, (), (cut,)),
            (9, (), (cut,))])
        self.assert_spots(rows, "cut go fail go fail", [
            (1, (), ()), (3, (1,), (cut,)), (4, (1,), (cut,)), (3, (2,), (cut,)), (4, (2,), (cut,)),
            (9, (), (cut, ("fail", 4)))])
        self.assert_spots(rows, "go go fail go go go go", [
            (1, (), ()), (3, (1,), ()), (4, (1,), ()), (3, (2,), ()), (4, (2,), ()), (6, (), ()), (8, (), ()), (9, (), ())])

    def test_inside_and_around_a_second_part(self):
        rows = "retry 2, try, check, finally, retry 2, check, end, end, end"
        one, two = ("fail", 2), ("fail", 5)
        self.assert_spots(rows, "go fail go fail go fail go fail go go", [
            (0, (1,), ()), (2, (1,), ()), (4, (1, 1), (one,)), (5, (1, 1), (one,)), (4, (1, 2), (one,)),
            (5, (1, 2), (one,)), (0, (2,), ()), (2, (2,), ()), (4, (2, 1), (one,)), (5, (2, 1), (one,)),
            (9, (), (one,))])
        self.assertEqual(walked(rows, "go fail go fail go fail go fail go fail go fail").way, two)

    def test_in_a_loop(self):
        walk = self.assert_spots("each a, retry 2, check, end, end", "item go fail go go item go fail go fail", [
            (0, (), ()), (1, (1,), ()), (2, (1,), ()), (1, (2,), ()), (2, (2,), ()), (4, (), ()), (1, (1,), ()),
            (2, (1,), ()), (1, (2,), ()), (2, (2,), ()), (5, (), (("fail", 2),))], a=2)
        self.assertEqual(walk.done(), ((0, 1),))

    def test_around_a_loop(self):
        walk = walked("retry 2, each a, check, end, end", "go item go item fail", a=2)
        self.assertEqual((walk.spot, walk.done()), ((0, (2,), ()), ()))
        walk.step("go")
        walk.step("item")
        self.assertEqual((walk.spot, walk.done()), ((2, (2,), ()), ((1, 0),)))

    def test_loop_of_an_event_that_a_try_forgets(self):
        walk = walked("retry 2, try, each a, pause, end, finally, check, end, end", "go item go item cut", a=5)
        self.assertEqual((walk.spot, walk.done()), ((6, (1,), (("cut", 3),)), ((2, 1),)))
        walk.step("fail")
        self.assertEqual((walk.spot, walk.done()), ((0, (2,), ()), ()))


class FaultsTest(WalkCase):

    def assert_fault(self, rows, moves, fault, **lengths):
        """The last of the moves meets the fault."""
        *earlier, last = moves.split()
        walk = walked(rows, " ".join(earlier), **lengths)
        before = seen(walk)
        self.assertIsNone(walk.fault)
        self.assertIs(walk.step(last), False)
        self.assertEqual(walk.fault, fault)
        self.assertEqual((walk.spot, walk.mark, walk.owed, walk.asked, walk.taken, walk.done()),
                         (before[0], before[1], before[2], before[6], before[7], before[9]))
        self.assertEqual((walk.way, walk.report, walk.is_over, walk.choices()), (None, None, True, []))
        self.assertEqual(walk.steps, before[11] + ((before[0][0], last),))
        for move in ("go", "cut", None):
            self.assert_bad_move(walk, move)

    def test_starved(self):
        for row in ("read", "head"):
            self.assert_fault(row, "go", "starved")
            self.assert_fault(f"ask, read, {row}", "go go go", "starved")
            self.assert_fault(f"begin, {row}, ask", "go go", "starved")
            self.assert_fault(f"each a, ask, end, each a, read, end, {row}", "item go over item go over go", "starved", a=1)
            self.assert_fault(f"ask, drain, {row}", "go go go", "starved")

    def test_amid(self):
        for row in ("ask", "begin"):
            self.assert_fault(f"begin, {row}", "go go", "amid")
            self.assert_fault(f"ask, head, begin, {row}", "go go go go", "amid")
        self.assert_fault("finish", "go", "amid")
        self.assert_fault("ask, head, finish", "go go go", "amid")
        for row in ("read", "head"):
            self.assert_fault(f"ask, head, {row}", "go go go", "amid")
            self.assert_fault(f"ask, ask, head, {row}", "go go go go", "amid")
            self.assert_fault(f"ask, head, begin, {row}", "go go go go", "amid")
        self.assert_fault("body", "go", "amid")
        self.assert_fault("ask, body", "go go", "amid")
        self.assert_fault("begin, body", "go go", "amid")
        self.assert_fault("ask, head, drain, body", "go go go go", "amid")
        self.assert_fault("begin, finish, finish", "go go go", "amid")

    def test_closed(self):
        for row in ("ask", "begin", "finish", "read", "head", "body"):
            self.assert_fault(f"close, {row}", "go go", "closed")
            self.assert_fault(f"ask, head, begin, close, {row}", "go go go go go", "closed")
        walk = walked("close, drain, close, pause, check, retry 2, end, maybe, end, each a, end, return",
                      "go go go go go go no over go")
        self.assertEqual((walk.mark, walk.owed, walk.report, walk.way), ("closed", 0, ("end", 0, 0), ("return", 11)))

    def test_stale(self):
        self.assert_fault("ask, retry 2, end", "go go", "stale")
        self.assert_fault("begin, retry 2, end", "go go", "stale")
        self.assert_fault("ask, head, retry 1, end", "go go go", "stale")
        self.assert_fault("retry 2, ask, check, end", "go go fail go", "stale")
        self.assert_fault("retry 3, begin, check, end", "go go fail go", "stale")
        self.assert_fault("each a, retry 2, ask, end, end", "item go go item go", "stale", a=2)
        walk = walked("retry 2, ask, check, end", "go go fail")
        self.assertEqual((walk.spot, walk.owed, walk.fault), ((0, (2,), ()), 1, None))
        self.assertIsNone(walked("retry 2, ask, read, check, end", "go go go fail go").fault)
        self.assertIsNone(walked("retry 2, ask, try, check, rescue, close, end, end", "go go fail go go").fault)

    def test_a_cut_comes_before_the_row_does_anything(self):
        for rows, moves in (("read", "cut"), ("body", "cut"), ("finish", "cut"), ("head", "cut"), ("close, read", "go cut")):
            walk = walked(rows, moves)
            self.assertEqual((walk.fault, walk.way), (None, ("cut", len(rows.split(", ")) - 1)))
        walk = walked("ask, head, body", "go go cut")
        self.assertEqual((walk.mark, walk.owed, walk.taken), ("in", 1, 0))
        walk = walked("begin, finish", "go cut")
        self.assertEqual((walk.mark, walk.owed, walk.asked), ("out", 0, 0))

    def test_fault_inside_blocks(self):
        self.assert_fault("each a, try, read, finally, head, end, end", "item cut go", "starved", a=2)
        self.assert_fault("retry 2, try, check, rescue, body, end, end", "go fail go", "amid")

    def test_marks_and_numbers_at_each_step(self):
        walk = walked("begin, finish, ask, head, begin, body, read, finish, drain, ask, close", "")
        found = []
        while not walk.is_over:
            walk.step("go")
            found.append((walk.mark, walk.owed, walk.asked, walk.taken))
        self.assertEqual(found, [("out", 0, 0, 0), ("whole", 1, 1, 0), ("whole", 2, 2, 0), ("in", 2, 2, 0),
                                 ("both", 2, 2, 0), ("out", 1, 2, 1), ("out", 0, 2, 2), ("whole", 1, 3, 2),
                                 ("whole", 0, 3, 2), ("whole", 1, 4, 2), ("closed", 0, 4, 2)])


if __name__ == "__main__":
    unittest.main()
