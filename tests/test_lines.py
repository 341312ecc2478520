"""[10] to [12], [2] and the section owedanswers/lines.py."""

import unittest
from random import Random

from owedanswers.errors import Amid, Closed, Starved
from owedanswers.lines import Line

MARKS = ("whole", "out", "in", "both")
# What the six rows need, and the mark behind them.
NEEDS = {"ask": {"whole": "whole", "in": "in"}, "begin": {"whole": "out", "in": "both"},
         "finish": {"out": "whole", "both": "in"}, "read": {"whole": "whole", "out": "out"},
         "head": {"whole": "in", "out": "both"}, "body": {"in": "whole", "both": "out"}}
CALLS = {"ask": lambda line: line.ask("new"), "begin": lambda line: line.begin("new"),
         "finish": lambda line: line.finish(), "read": lambda line: line.read(),
         "head": lambda line: line.head(), "body": lambda line: line.body()}
CAUSES = (None, "", "starved", 0, -3, 10 ** 60 - 1, (), ("cut", 3), ("a", (1, ("b", None)), 7))


def line_with(mark, tags=(), number=0):
    """A line with a mark; on lines amid an answer at least one is owed."""
    line = Line(number)
    line.ask(*tags)
    if mark in ("in", "both"):
        if not tags:
            line.ask("half")
        line.head()
    if mark in ("out", "both"):
        line.begin("begun")
    if mark == "closed":
        line.close(("end", 1))
    return line


def seen(line):
    """All that can be seen of a line."""
    return (line.number, line.mark, line.is_open, line.is_clean, line.owed, len(line), line.tags(), line.cause)


class LineCase(unittest.TestCase):

    def assert_raised(self, error, field, worth, call, *args):
        with self.assertRaises(error) as caught:
            call(*args)
        self.assertIs(caught.exception.__class__, error)
        self.assertEqual(getattr(caught.exception, field), worth)


class LineTest(LineCase):

    def test_defined_in_this_file(self):
        self.assertEqual(Line.__module__, "owedanswers.lines")
        for name in ("ask", "begin", "finish", "read", "head", "body", "drain", "close", "tags", "answers",
                     "mark", "is_open", "is_clean", "owed", "__len__", "__contains__"):
            self.assertIn(name, vars(Line))

    def test_new(self):
        self.assertEqual(seen(Line()), (0, "whole", True, True, 0, 0, [], None))
        self.assertEqual(seen(Line(7)), (7, "whole", True, True, 0, 0, [], None))
        self.assertEqual(Line(number=10 ** 60 - 1).number, 10 ** 60 - 1)

    def test_example(self):
        line = Line()
        self.assertIsNone(line.ask("x", "y"))
        tag = line.head()
        self.assertEqual((tag, line.mark, line.owed, line.body(), line.mark, line.tags()),
                         ("x", "in", 2, "x", "whole", ["y"]))

    def test_asks(self):
        line = Line()
        line.ask()
        self.assertEqual(seen(line), (0, "whole", True, True, 0, 0, [], None))
        line.ask("a")
        self.assertEqual(seen(line), (0, "whole", True, False, 1, 1, ["a"], None))
        line.ask("c", "b", "a")
        line.ask(*[])
        self.assertEqual(seen(line), (0, "whole", True, False, 4, 4, ["a", "c", "b", "a"], None))
        self.assertEqual([line.read() for _ in range(4)], ["a", "c", "b", "a"])
        self.assertEqual(seen(line), (0, "whole", True, True, 0, 0, [], None))

    def test_two_parts(self):
        line = Line()
        self.assertIsNone(line.begin("a"))
        self.assertEqual(seen(line), (0, "out", True, False, 0, 0, [], None))
        self.assertIsNone(line.finish())
        self.assertEqual(seen(line), (0, "whole", True, False, 1, 1, ["a"], None))
        line.ask("b")
        self.assertEqual(line.head(), "a")
        self.assertEqual(seen(line), (0, "in", True, False, 2, 2, ["a", "b"], None))
        line.begin(tag="c")
        self.assertEqual(seen(line), (0, "both", True, False, 2, 2, ["a", "b"], None))
        line.finish()
        self.assertEqual(seen(line), (0, "in", True, False, 3, 3, ["a", "b", "c"], None))
        line.begin("d")
        self.assertEqual(line.body(), "a")
        self.assertEqual(seen(line), (0, "out", True, False, 2, 2, ["b", "c"], None))
        self.assertEqual(line.read(), "b")
        self.assertEqual(line.head(), "c")
        self.assertEqual(line.mark, "both")
        self.assertEqual(line.body(), "c")
        self.assertEqual(seen(line), (0, "out", True, False, 0, 0, [], None))

    def test_tag_in_line(self):
        line = Line()
        line.ask("a", "b")
        line.begin("c")
        self.assertEqual(["a" in line, "b" in line, "c" in line, "" in line, "ab" in line], [True, True, False, False, False])
        line.finish()
        self.assertIn("c", line)
        line.head()
        self.assertIn("a", line)
        line.body()
        self.assertNotIn("a", line)
        line.drain()
        self.assertEqual(["a" in line, "b" in line, "c" in line], [False, False, False])
        line.ask("b")
        line.close()
        self.assertNotIn("b", line)

    def test_any_tags(self):
        for tag in ("", " ", "x y", "~" * 2000):
            line = Line()
            line.ask(tag, "other", tag)
            self.assertEqual((tag in line, line.read(), tag in line, line.tags()), (True, tag, True, ["other", tag]))

    def test_order_over_many_asks(self):
        chance = Random(5)
        line, queue, asked, read = Line(3), [], [], []
        begun, half = None, False
        for number in range(4000):
            moves = ["ask", "ask 3", "begin"] if begun is None else ["finish"]
            if half:
                moves.append("body")
            elif queue:
                moves += ["read", "head"]
            move = chance.choice(moves) if len(queue) < 150 else moves[-1]
            tags = [f"tag-{number}-{part}" for part in range(3)]
            if move.startswith("ask"):
                tags = tags if move == "ask 3" else tags[:1]
                line.ask(*tags)
                queue += tags
                asked += tags
            elif move == "begin":
                begun = tags[0]
                line.begin(begun)
            elif move == "finish":
                line.finish()
                queue.append(begun)
                asked.append(begun)
                begun = None
            elif move == "head":
                self.assertEqual(line.head(), queue[0])
                half = True
            else:
                read.append(line.read() if move == "read" else line.body())
                self.assertEqual(read[-1], queue.pop(0))
                half = False
            mark = MARKS[(begun is not None) + 2 * half]
            clean = mark == "whole" and not queue
            self.assertEqual(seen(line), (3, mark, True, clean, len(queue), len(queue), queue, None))
        self.assertGreater(len(read), 500)
        self.assertEqual(read, asked[:len(read)])

    def test_hundreds_of_tags(self):
        line = Line()
        tags = [f"t{number}" for number in range(900)]
        line.ask(*tags)
        self.assertEqual((line.owed, line.tags()), (900, tags))
        self.assertEqual(line.drain(), tags)


class RowsOnMarksTest(LineCase):

    def test_each_row_on_each_mark(self):
        for word, behind in NEEDS.items():
            for mark in MARKS:
                for tags in ((), ("x", "y")):
                    line = line_with(mark, tags, 5)
                    owed = line.owed
                    with self.subTest(word=word, mark=mark, owed=owed):
                        before = seen(line)
                        if mark not in behind:
                            self.assert_raised(Amid, "half", mark, CALLS[word], line)
                            self.assertEqual(seen(line), before)
                        elif word in ("read", "head") and owed == 0:
                            self.assert_raised(Starved, "number", 5, CALLS[word], line)
                            self.assertEqual(seen(line), before)
                        else:
                            CALLS[word](line)
                            more = {"ask": 1, "finish": 1, "read": -1, "body": -1}.get(word, 0)
                            self.assertEqual((line.mark, line.owed), (behind[mark], owed + more))

    def test_amid_before_starved(self):
        line = Line(4)
        line.ask("x")
        line.head()
        for call in (line.read, line.head):
            self.assert_raised(Amid, "half", "in", call)
        # Nothing is owed: the half of an answer can't be left behind without one.
        line = Line(4)
        for call in (line.body, line.finish):
            self.assert_raised(Amid, "half", "whole", call)
        self.assert_raised(Starved, "number", 4, line.read)
        line.begin("x")
        self.assert_raised(Amid, "half", "out", line.body)
        self.assert_raised(Starved, "number", 4, line.head)

    def test_ask_checks_once_before_the_first(self):
        for tags in ((), ("x",), ("x", "y", "z")):
            for mark in ("out", "both"):
                line = line_with(mark, ("a", "b"))
                before = seen(line)
                self.assert_raised(Amid, "half", mark, line.ask, *tags)
                self.assertEqual(seen(line), before)
            line = line_with("closed", (), 8)
            before = seen(line)
            self.assert_raised(Closed, "number", 8, line.ask, *tags)
            self.assertEqual(seen(line), before)

    def test_after_an_error_the_parts_go_on(self):
        line = line_with("both", ("a", "b"))
        for word in ("ask", "begin", "read", "head"):
            self.assert_raised(Amid, "half", "both", CALLS[word], line)
        self.assertEqual(line.body(), "a")
        line.finish()
        self.assertEqual((line.mark, line.tags()), ("whole", ["b", "begun"]))


class DrainTest(LineCase):

    def test_drain(self):
        behind = {"whole": "whole", "out": "out", "in": "whole", "both": "out"}
        for mark in MARKS:
            for tags in ((), ("x",), ("x", "y", "x")):
                line = line_with(mark, tags)
                owed = line.tags()
                self.assertEqual(line.drain(), owed)
                clean = behind[mark] == "whole"
                self.assertEqual(seen(line), (0, behind[mark], True, clean, 0, 0, [], None), (mark, tags))
                self.assertEqual(line.drain(), [])

    def test_an_ask_that_was_begun_goes_on_after_a_drain(self):
        line = line_with("both", ("x", "y"))
        self.assertEqual(line.drain(), ["x", "y"])
        line.finish()
        self.assertEqual((line.tags(), line.read(), line.is_clean), (["begun"], "begun", True))

    def test_of_a_half_read_answer_nothing_is_left(self):
        line = line_with("in", ("x", "y"))
        line.drain()
        self.assert_raised(Amid, "half", "whole", line.body)
        line.ask("z")
        self.assertEqual(line.read(), "z")


class CloseTest(LineCase):

    def test_close_with_each_cause(self):
        for mark in MARKS:
            for cause in CAUSES:
                line = line_with(mark, ("x", "y"), 2)
                self.assertIsNone(line.close(cause))
                self.assertEqual(seen(line), (2, "closed", False, False, 0, 0, [], cause))
        line = Line()
        line.close()
        self.assertEqual(seen(line), (0, "closed", False, False, 0, 0, [], None))
        line = Line()
        line.close(cause="late")
        self.assertEqual(line.cause, "late")

    def test_closed_twice(self):
        for first in CAUSES:
            for second in CAUSES:
                line = Line()
                line.close(first)
                line.close(second)
                self.assertEqual(line.cause, first)
                line.close()
                self.assertEqual(line.cause, first)

    def test_each_method_on_a_closed_line(self):
        for mark in MARKS:
            line = line_with(mark, ("x", "y"), 9)
            line.close("why")
            before = seen(line)
            for call in CALLS.values():
                self.assert_raised(Closed, "number", 9, call, line)
            self.assert_raised(Closed, "number", 9, lambda: list(line.answers()))
            self.assertEqual((line.drain(), line.tags(), "x" in line), ([], [], False))
            self.assertIsNone(line.close("again"))
            self.assertEqual(seen(line), before)


class AnswersTest(LineCase):

    def test_to_the_end(self):
        line = Line()
        line.ask("a", "b", "c")
        self.assertEqual(list(line.answers()), ["a", "b", "c"])
        self.assertEqual(seen(line), (0, "whole", True, True, 0, 0, [], None))
        self.assertEqual(list(line.answers()), [])

    def test_in_part_and_again(self):
        line = Line()
        line.ask("a", "b", "c", "d")
        got = []
        for tag in line.answers():
            got.append(tag)
            if len(got) == 2:
                break
        self.assertEqual((got, line.tags(), line.mark), (["a", "b"], ["c", "d"], "whole"))
        line.ask("e")
        self.assertEqual(line.read(), "c")
        self.assertEqual(list(line.answers()), ["d", "e"])
        line.ask("f")
        self.assertEqual(list(line.answers()), ["f"])

    def test_each_answer_is_read_when_it_is_yielded(self):
        line = Line()
        line.ask("a", "b")
        answers = line.answers()
        self.assertEqual(line.owed, 2)
        self.assertEqual((next(answers), line.tags()), ("a", ["b"]))
        self.assertEqual((next(answers), line.tags(), line.is_clean), ("b", [], True))
        with self.assertRaises(StopIteration):
            next(answers)

    def test_is_no_list(self):
        line = Line()
        line.ask("a")
        answers = line.answers()
        self.assertIs(iter(answers), answers)
        self.assertEqual(line.tags(), ["a"])

    def test_with_an_ask_that_was_begun(self):
        line = line_with("out", ("a", "b"))
        self.assertEqual(list(line.answers()), ["a", "b"])
        self.assertEqual((line.mark, line.owed), ("out", 0))
        line.finish()
        self.assertEqual(list(line.answers()), ["begun"])
        self.assertEqual(list(line_with("out").answers()), [])

    def test_amid(self):
        for mark in ("in", "both"):
            line = line_with(mark, ("a", "b"))
            answers = line.answers()
            before = seen(line)
            self.assert_raised(Amid, "half", mark, next, answers)
            self.assertEqual(seen(line), before)
            line.body()
            self.assertEqual(list(line.answers()), ["b"])

    def test_closed_when_the_iteration_begins(self):
        line = Line(6)
        line.ask("a")
        answers = line.answers()
        line.close()
        self.assert_raised(Closed, "number", 6, next, answers)
        self.assert_raised(Closed, "number", 6, list, line.answers())


class SharingTest(LineCase):

    def test_returned_lists_are_new(self):
        line = Line()
        line.ask("a", "b")
        line.tags().clear()
        line.tags().append("z")
        self.assertEqual(line.tags(), ["a", "b"])
        thrown = line.drain()
        thrown.append("z")
        self.assertEqual(seen(line), (0, "whole", True, True, 0, 0, [], None))
        line.ask("c")
        self.assertEqual((thrown, line.tags()), (["a", "b", "z"], ["c"]))
        line.close()
        line.drain().append("z")
        line.tags().append("z")
        self.assertEqual((line.drain(), line.tags(), len(line)), ([], [], 0))

    def test_arguments_stay(self):
        line, tags = Line(), ["a", "b"]
        line.ask(*tags)
        line.read()
        self.assertEqual(tags, ["a", "b"])
        tags.append("c")
        self.assertEqual(line.tags(), ["b"])

    def test_two_lines_with_one_number_share_nothing(self):
        one, other = Line(1), Line(1)
        one.ask("a")
        one.begin("b")
        self.assertEqual(seen(other), (1, "whole", True, True, 0, 0, [], None))
        one.close("why")
        self.assertEqual(seen(other), (1, "whole", True, True, 0, 0, [], None))
        other.ask("c")
        self.assertEqual(seen(one), (1, "closed", False, False, 0, 0, [], "why"))
        self.assertEqual(seen(Line(1)), (1, "whole", True, True, 0, 0, [], None))

    def test_equal_to_nothing_else(self):
        line = Line(1)
        for other in (1, 0, [], "whole", None, Line(1)):
            self.assertFalse(line == other)
            self.assertTrue(line != other)


if __name__ == "__main__":
    unittest.main()
