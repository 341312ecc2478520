"""[6], [7], [9], [2], the first sentence of [17] and the section owedanswers/functions.py."""

import unittest

from owedanswers.errors import BadFunction, NotCut, TooMany
from owedanswers.functions import Function

PLAIN = ["ask", "begin", "finish", "read", "head", "body", "pause", "check", "drain", "close", "return"]
NESTED = ["each a", "maybe", "read", "else", "shield", "try", "read", "finally", "pause", "end", "end", "end",
          "check", "end", "retry 2", "try", "rescue", "head", "end", "end", "body"]


class FunctionCase(unittest.TestCase):

    def assert_bad(self, row, text):
        with self.assertRaises(BadFunction) as caught:
            Function(text)
        self.assertEqual(caught.exception.row, row, text)

    def assert_too_many(self, what, call, *args):
        with self.assertRaises(TooMany) as caught:
            call(*args)
        self.assertEqual(caught.exception.what, what)


class FunctionTest(FunctionCase):

    def test_defined_in_this_file(self):
        self.assertEqual(Function.__module__, "owedanswers.functions")
        for name in ("of", "waits", "step_rows", "block", "shielded"):
            self.assertIn(name, vars(Function))

    def test_rows_lists_and_length(self):
        function = Function("each b\nask\nend\neach abc\nread\nend\neach a\nend\neach b\nend")
        self.assertEqual(function.rows, ("each b", "ask", "end", "each abc", "read", "end", "each a", "end",
                                         "each b", "end"))
        self.assertEqual(function.lists, ("a", "abc", "b"))
        self.assertEqual(len(function), 10)
        self.assertEqual((Function("ask").rows, Function("ask").lists, len(Function("ask"))), (("ask",), (), 1))
        self.assertEqual((function.rows.__class__, function.lists.__class__), (tuple, tuple))

    def test_by_name(self):
        self.assertEqual(Function(text="ask").rows, ("ask",))
        self.assertEqual(Function("read").shielded(rows=[0]).rows, ("shield", "read", "end"))
        self.assertEqual(Function("maybe\nend").block(row=1), 0)

    def test_spaces_anywhere(self):
        function = Function("   each    ab  \n  ask\nread   \n     end\n retry  3 \n  end  ")
        self.assertEqual(function.rows, ("each ab", "ask", "read", "end", "retry 3", "end"))
        self.assertEqual(str(function), "each ab\nask\nread\nend\nretry 3\nend")
        self.assertEqual(function.lists, ("ab",))

    def test_text(self):
        for rows in (["ask"], ["ask", "read"], NESTED):
            self.assertEqual(str(Function("\n".join(rows))), "\n".join(rows))

    def test_equality(self):
        self.assertTrue(Function("ask\nread") == Function("  ask \n read"))
        self.assertFalse(Function("ask\nread") != Function("ask\nread"))
        for text in ("ask", "read\nask", "ask\nread\nask", "ask\nhead"):
            self.assertFalse(Function("ask\nread") == Function(text))
            self.assertTrue(Function("ask\nread") != Function(text))
        self.assertFalse(Function("each a\nend") == Function("each b\nend"))
        self.assertFalse(Function("retry 1\nend") == Function("retry 2\nend"))

    def test_equal_to_nothing_else(self):
        function = Function("ask")
        for other in ("ask", ("ask",), ["ask"], 1, None, True):
            self.assertFalse(function == other)
            self.assertFalse(other == function)

    def test_of(self):
        self.assertEqual(Function.of("ask", "read").rows, ("ask", "read"))
        self.assertEqual(Function.of(*NESTED), Function("\n".join(NESTED)))
        self.assertEqual(Function.of(" each   a", "end ").rows, ("each a", "end"))
        self.assertEqual(Function.of("ask\nread", "pause").rows, ("ask", "read", "pause"))
        for rows, at in (((), 0), (("",), 0), (("ask", ""), 1), (("ask", "", "asks"), 1), (("maybe",), 1)):
            with self.assertRaises(BadFunction) as caught:
                Function.of(*rows)
            self.assertEqual(caught.exception.row, at)
        self.assert_too_many("rows", Function.of, *["ask"] * 25)
        self.assert_too_many("lists", Function.of, *[row for name in "abcd" for row in ("each " + name, "end")])

    def test_no_string(self):
        for text in (None, 0, 1, -1, True, False, [], ["ask"], ("ask", "read"), {}, {"ask": 1}, [["ask"], None]):
            self.assert_bad(-1, text)

    def test_rows_of_each_kind(self):
        for row in PLAIN:
            self.assertEqual(Function(row).rows, (row,))
        for name in ("a", "z", "az", "abc", "zzz", "end", "try", "ask"):
            self.assertEqual(Function(f"each {name}\nend").lists, (name,))
        for tries in "123":
            self.assertEqual(Function(f"retry {tries}\nask\nend").rows, (f"retry {tries}", "ask", "end"))
        for text in ("maybe\nask\nend", "maybe\nask\nelse\nread\nend", "try\nask\nfinally\nread\nend",
                     "try\nask\nrescue\nread\nend", "shield\nask\nend", "each a\nask\nend"):
            self.assertEqual(str(Function(text)), text)

    def test_groups_of_rows_that_are_empty(self):
        for text in ("each a\nend", "maybe\nend", "maybe\nelse\nend", "maybe\nask\nelse\nend", "maybe\nelse\nask\nend",
                     "try\nfinally\nend", "try\nrescue\nend", "try\nask\nfinally\nend", "try\nask\nrescue\nend",
                     "try\nrescue\nask\nend", "try\nfinally\nask\nend", "shield\nend", "retry 1\nend"):
            self.assertEqual(str(Function(text)), text)

    def test_too_many_rows(self):
        self.assertEqual(len(Function("\n".join(["ask"] * 24))), 24)
        self.assert_too_many("rows", Function, "\n".join(["ask"] * 25))
        self.assert_too_many("rows", Function, "\n".join(["ask"] * 300))
        self.assert_too_many("rows", Function, "\n".join(["asks"] + ["ask"] * 24))
        self.assert_too_many("rows", Function, "\n" * 24)
        self.assert_too_many("rows", Function, "\n".join(["ask"] * 24) + "\n")
        self.assert_too_many("rows", Function, "\n".join(["each " + name for name in "abcd"] + [""] * 21))
        self.assert_bad(0, "\n" * 23)
        self.assert_bad(23, "\n".join(["ask"] * 23) + "\n")

    def test_too_many_lists(self):
        rows = [row for name in ("b", "a", "ab", "b", "a", "ab") for row in ("each " + name, "end")]
        self.assertEqual(Function.of(*rows).lists, ("a", "ab", "b"))
        self.assert_too_many("lists", Function.of, *rows, "each c", "end")

    def test_wrong_rows_before_too_many_lists(self):
        rows = [row for name in "abcd" for row in ("each " + name, "end")]
        self.assert_bad(8, "\n".join(rows + ["asks"]))
        self.assert_bad(9, "\n".join(rows + ["maybe"]))
        self.assert_bad(8, "\n".join(rows) + "\n")

    def test_returned_lists_are_new_and_the_function_stays(self):
        function = Function("each a\nread\nend")
        function.waits().clear()
        function.step_rows().clear()
        self.assertEqual((function.waits(), function.step_rows()), ([1], [0, 1, 2]))

    def test_the_examples(self):
        function = Function("each ab\n  ask\n  read\nend")
        self.assertEqual((function.rows, function.lists, function.waits(), function.step_rows()),
                         (("each ab", "ask", "read", "end"), ("ab",), [2], [0, 1, 2, 3]))
        with self.assertRaises(BadFunction) as caught:
            Function("try\nask\nend")
        self.assertEqual(caught.exception.row, 2)


class RowsTest(unittest.TestCase):

    def test_waits_are_the_waiting_rows(self):
        self.assertEqual(Function.of(*PLAIN).waits(), [2, 3, 4, 5, 6])
        self.assertEqual(Function.of("ask", "begin", "check", "drain", "close", "return").waits(), [])

    def test_waits_are_not_shielded(self):
        for row in ("read", "head", "body", "finish", "pause"):
            self.assertEqual(Function.of(row).waits(), [0])
            self.assertEqual(Function.of("shield", row, "end", row).waits(), [3])
            self.assertEqual(Function.of("shield", "maybe", "each a", row, "end", "else", row, "end", row, "end").waits(),
                             [])
            self.assertEqual(Function.of("maybe", "shield", "end", row, "else", row, "end").waits(), [3, 5])
            self.assertEqual(Function.of("try", row, "finally", row, "end", "try", row, "rescue", row, "end").waits(),
                             [1, 3, 6, 8])
            self.assertEqual(Function.of("retry 1", "shield", row, "end", row, "end", "each a", row, "end").waits(),
                             [4, 7])
        self.assertEqual(Function.of(*NESTED).waits(), [2, 17, 20])

    def test_step_rows(self):
        self.assertEqual(Function.of(*PLAIN).step_rows(), list(range(11)))
        self.assertEqual(Function("try\nfinally\nend").step_rows(), [])
        self.assertEqual(Function("try\nrescue\nend").step_rows(), [])
        self.assertEqual(Function("shield\nend").step_rows(), [])
        self.assertEqual(Function("maybe\nelse\nend").step_rows(), [0])
        self.assertEqual(Function("retry 2\nend").step_rows(), [0])
        self.assertEqual(Function("each a\nend").step_rows(), [0, 1])
        self.assertEqual(Function("each a\nmaybe\nend\nend").step_rows(), [0, 1, 3])
        self.assertEqual(Function.of(*NESTED).step_rows(), [0, 1, 2, 6, 8, 12, 13, 14, 17, 20])

    def test_blocks(self):
        function = Function.of(*NESTED)
        self.assertEqual([function.block(row) for row in range(len(function))],
                         [None, 0, 1, 1, 1, 4, 5, 5, 5, 5, 4, 1, 0, 0, None, 14, 15, 15, 15, 14, None])

    def test_block_of_each_kind_of_row(self):
        for opener in ("each a", "maybe", "shield", "retry 1"):
            function = Function.of("ask", opener, "ask", "end", "ask")
            self.assertEqual([function.block(row) for row in range(5)], [None, None, 1, 1, None])
        for word in ("finally", "rescue"):
            function = Function.of("shield", "try", "ask", word, "ask", "end", "end")
            self.assertEqual([function.block(row) for row in range(7)], [None, 0, 1, 1, 1, 1, 0])
        function = Function.of("maybe", "maybe", "end", "else", "maybe", "else", "end", "end")
        self.assertEqual([function.block(row) for row in range(8)], [None, 0, 1, 0, 0, 4, 4, 0])


class ShieldedTest(FunctionCase):

    def assert_not_cut(self, row, function, rows):
        for kind in (list, tuple):
            with self.assertRaises(NotCut) as caught:
                function.shielded(kind(rows))
            self.assertEqual(caught.exception.row, row)

    def test_rows_in_any_order(self):
        function = Function("ask\nread\nask\nread\npause")
        rows = ("ask", "shield", "read", "end", "ask", "read", "shield", "pause", "end")
        for given in ([1, 4], [4, 1], (4, 1)):
            self.assertEqual(function.shielded(given).rows, rows)
        self.assertEqual(function.shielded([3]).rows, ("ask", "read", "ask", "shield", "read", "end", "pause"))
        self.assertEqual(function.shielded([4, 3, 1]).waits(), [])

    def test_inside_blocks(self):
        function = Function("each a\n maybe\n  read\n else\n  head\n end\nend")
        self.assertEqual(function.shielded([4, 2]).rows,
                         ("each a", "maybe", "shield", "read", "end", "else", "shield", "head", "end", "end", "end"))
        self.assertEqual(function.shielded([4, 2]).lists, ("a",))

    def test_no_rows(self):
        function = Function("ask\nread")
        for rows in ([], ()):
            self.assertEqual(function.shielded(rows), function)
            self.assertIsNot(function.shielded(rows), function)

    def test_the_old_function_and_the_argument_stay(self):
        function, rows = Function("read\npause"), [1, 0]
        new = function.shielded(rows)
        self.assertEqual((function.rows, function.waits(), rows), (("read", "pause"), [0, 1], [1, 0]))
        self.assertEqual(function, Function("read\npause"))
        rows.clear()
        self.assertEqual((len(new), new.waits(), new.block(4)), (6, [], 3))

    def test_rows_that_cannot_be_cut(self):
        function = Function("ask\nread\nshield\nread\nend\nread")
        for row in (0, 2, 3, 4, 6, 100, -1, -5, 10 ** 59):
            self.assert_not_cut(row, function, [row])
            self.assert_not_cut(row, function, [1, row, 5])
        self.assert_not_cut(3, function, [5, 3, 0])
        self.assert_not_cut(0, function, [0, 3, 3])

    def test_repeated_rows(self):
        function = Function("read\nread\nread")
        self.assert_not_cut(1, function, [1, 1])
        self.assert_not_cut(0, function, [2, 0, 0, 2, 2])
        self.assert_not_cut(2, function, [2, 0, 2, 7])
        self.assert_not_cut(7, function, [2, 7, 2])

    def test_too_many_rows(self):
        function = Function.of(*["read"] * 20)
        self.assertEqual(len(function.shielded([19, 0])), 24)
        self.assert_too_many("rows", function.shielded, [19, 0, 1])
        self.assert_too_many("rows", function.shielded, list(range(20)))
        self.assertEqual(len(Function.of(*["read"] * 22).shielded([5])), 24)
        self.assert_too_many("rows", Function.of(*["read"] * 23).shielded, (5,))
        self.assert_too_many("rows", Function.of(*["read"] * 24).shielded, (5,))

    def test_rows_that_cannot_be_cut_before_too_many_rows(self):
        function = Function.of("ask", *["read"] * 20)
        self.assert_not_cut(0, function, [1, 2, 3, 4, 0])
        self.assert_not_cut(4, function, [1, 2, 3, 4, 4])

    def test_inside_five_blocks(self):
        four = ["maybe"] * 4 + ["read"] + ["end"] * 4
        self.assertEqual(Function.of(*four).shielded([4]).rows[4:7], ("shield", "read", "end"))
        five = ["maybe"] * 5 + ["read"] + ["end"] * 5
        for function, rows, row in ((Function.of(*five), [5], 5), (Function.of("read", *five), [0, 6], 8),
                                    (Function.of("read", *five), [6], 6), (Function.of("read", *five), [6, 0], 8)):
            with self.assertRaises(BadFunction) as caught:
                function.shielded(rows)
            self.assertEqual(caught.exception.row, row)

    def test_too_many_rows_before_five_blocks(self):
        function = Function.of(*["maybe"] * 5, "read", *["end"] * 5, *["read"] * 12)
        self.assert_too_many("rows", function.shielded, [5])


if __name__ == "__main__":
    unittest.main()
