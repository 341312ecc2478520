"""[4], [2] and the class Form of the section owedanswers/forms.py."""

import sys
import unittest
from itertools import product

from owedanswers import forms
from owedanswers.errors import BadSymbol
from owedanswers.forms import Form

BIG = 10 ** 60 - 1
NINES = "9" * 60
SYMBOLS = ["a", "z", "ab", "zz", "abc", "zzz", "r", "rr", "rab", "if", "r0", "r1", "r9", "r10", "r17",
           "r" + NINES, "r1" + "0" * 59]
NO_SYMBOLS = ["", "abcd", "A", "aB", "a1", "1", "1r", "0", " ", "a ", " a", "a b", "r 1", "r1 ", " r1", "r00",
              "r01", "r1a", "ra1", "rr1", "R1", "r-1", "r+1", "r1_0", "_", "a_", "a.b", "-", "a\n", "r1\n", "\n",
              "r" + "9" * 61, "r1" + "0" * 60, "r0" + "1" * 59, "s1", "q0", "/", ":", "`", "{", "@", "r/", "r:", "r1:"]


class FormTest(unittest.TestCase):

    def assert_bad(self, symbol, call, *args, **more):
        with self.assertRaises(BadSymbol) as caught:
            call(*args, **more)
        self.assertEqual(caught.exception.symbol, symbol)

    def test_defined_in_this_file(self):
        self.assertEqual(Form.__module__, "owedanswers.forms")
        self.assertIs(forms.Form, Form)
        for name in ("of", "symbols", "put", "written"):
            self.assertIn(name, vars(Form))

    def test_constant_and_symbols(self):
        form = Form(3, ab=2, r5=-1)
        self.assertEqual(form.constant, 3)
        self.assertEqual(form.symbols(), ["ab", "r5"])
        self.assertEqual((Form().constant, Form().symbols()), (0, []))
        self.assertEqual(Form(constant=4, a=1).constant, 4)
        self.assertEqual(Form(a=1).constant, 0)

    def test_symbols_without_zeros_and_ascending(self):
        self.assertEqual(Form(1, b=0, a=0).symbols(), [])
        self.assertEqual(Form(0, r3=1, r10=1, r=1, a=1, zzz=-1, b=0).symbols(), ["a", "r", "r10", "r3", "zzz"])

    def test_coefficients(self):
        form = Form(3, ab=2, r5=-1, c=0)
        self.assertEqual([form[symbol] for symbol in ("ab", "r5", "c", "a", "b", "r", "r0")], [2, -1, 0, 0, 0, 0, 0])
        self.assertEqual([form[text] for text in NO_SYMBOLS + ["constant", "self"]], [0] * (len(NO_SYMBOLS) + 2))

    def test_membership(self):
        form = Form(3, ab=2, r5=-1, c=0)
        self.assertIs("ab" in form, True)
        self.assertIs("r5" in form, True)
        self.assertIs("c" in form, False)
        self.assertIs("a" in form, False)
        for text in NO_SYMBOLS:
            self.assertIs(text in form, False)

    def test_value(self):
        form = Form(3, ab=2, r5=-1)
        self.assertEqual(form({"ab": 10, "r5": 4}), 19)
        self.assertEqual(form({"ab": 10}), 23)
        self.assertEqual(form({"r5": -7}), 10)
        self.assertEqual(form({}), 3)
        self.assertEqual(form({"ab": 1, "zz": 100, "?": 100}), 5)
        self.assertEqual(form(values={"ab": BIG, "r5": BIG}), 3 + BIG)
        values = {"ab": 1}
        form(values)
        self.assertEqual(values, {"ab": 1})

    def test_written(self):
        self.assertEqual(Form(3, r5=-1, ab=2, c=0).written(), (3, (("ab", 2), ("r5", -1))))
        self.assertEqual(Form().written(), (0, ()))
        self.assertEqual(Form(-2).written(), (-2, ()))
        self.assertEqual(Form(0, r3=1, r10=1, r=1).written(), (0, (("r", 1), ("r10", 1), ("r3", 1))))
        written = Form(1, a=1).written()
        self.assertEqual((written.__class__, written[1].__class__, written[1][0].__class__), (tuple, tuple, tuple))

    def test_text(self):
        cases = [
            (Form(), "0"), (Form(5), "5"), (Form(-5), "-5"), (Form(1), "1"), (Form(-1), "-1"),
            (Form(0, a=1), "a"), (Form(0, a=-1), "-a"), (Form(0, a=2), "2*a"), (Form(0, a=-2), "-2*a"),
            (Form(0, a=0), "0"), (Form(3, a=0), "3"),
            (Form(3, a=1), "3 + a"), (Form(3, a=-1), "3 - a"), (Form(-3, a=-1), "-3 - a"), (Form(-3, a=4), "-3 + 4*a"),
            (Form(1, a=1), "1 + a"), (Form(-1, a=-1), "-1 - a"),
            (Form(0, a=1, b=-1, c=12), "a - b + 12*c"), (Form(0, b=1, a=-1), "-a + b"),
            (Form(0, r3=-1, r10=-7), "-7*r10 - r3"), (Form(7, r3=1, ab=10, a=-11), "7 - 11*a + 10*ab + r3"),
            (Form(-BIG, abc=BIG), f"-{BIG} + {BIG}*abc"), (Form(0, **{"r" + NINES: 1}), "r" + NINES),
        ]
        for form, text in cases:
            self.assertEqual(str(form), text)

    def test_text_of_numbers_with_many_digits(self):
        form = Form(1, a=-1, b=2)
        for _ in range(80):
            form = form * 10 ** 59
        zeros = "0" * (59 * 80)
        self.assertEqual(str(form), f"1{zeros} - 1{zeros}*a + 2{zeros}*b")
        self.assertEqual(str(Form(0, r7=1) - form), f"-1{zeros} + 1{zeros}*a - 2{zeros}*b + r7")
        self.assertEqual(str(Form(0, a=3) * -(10 ** 5000)), "-3" + "0" * 5000 + "*a")
        self.assertEqual(str(Form(7) - 10 ** 6000), "-" + "9" * 5999 + "3")

    def test_text_of_numbers_around_parts_of_digits(self):
        for many in [*range(1, 70), *range(120, 140), *range(185, 200), 639, 640, 641, 4299, 4300]:
            for number in (10 ** many - 1, 10 ** (many - 1), 10 ** (many - 1) + 7, 123456789 ** many % 10 ** many + 1):
                self.assertEqual(str(Form(number)), str(number))
                self.assertEqual(str(Form(-number, ab=number)), f"-{number} + {number}*ab".replace(" 1*", " "))

    @unittest.skipUnless(hasattr(sys, "set_int_max_str_digits"), "this Python writes integers of any length")
    def test_text_where_python_writes_few_digits(self):
        before = sys.get_int_max_str_digits()
        sys.set_int_max_str_digits(640)
        try:
            text = str(Form(10 ** 700, a=10 ** 900))
        finally:
            sys.set_int_max_str_digits(before)
        self.assertEqual(text, "1" + "0" * 700 + " + 1" + "0" * 900 + "*a")

    def test_of(self):
        self.assertEqual(Form.of(3, [("ab", 2), ("r5", -1)]), Form(3, ab=2, r5=-1))
        self.assertEqual(Form.of(3, []), Form(3))
        self.assertEqual(Form.of(constant=3, pairs=[("a", 1)]), Form(3, a=1))
        self.assertEqual(Form.of(0, [("a", 1), ("b", 5), ("a", 2), ("a", -7)]).written(), (0, (("a", -4), ("b", 5))))
        self.assertEqual(Form.of(0, [("a", 1), ("b", 5), ("a", -1), ("c", 0)]).symbols(), ["b"])
        self.assertEqual(Form.of(BIG, [("a", BIG), ("a", BIG)]).written(), (BIG, (("a", 2 * BIG),)))

    def test_symbols_that_are_some(self):
        for symbol in SYMBOLS:
            self.assertEqual(Form(0, **{symbol: 2}).symbols(), [symbol])
            self.assertEqual(Form.of(0, [(symbol, 2)]).symbols(), [symbol])

    def test_symbols_that_are_none(self):
        for text in NO_SYMBOLS:
            self.assert_bad(text, Form, 0, **{text: 2})
            self.assert_bad(text, Form, 0, **{text: 0})
            self.assert_bad(text, Form.of, 0, [(text, 2)])
            self.assert_bad(text, Form.of, 0, [(text, 0)])
        for text in ("self", "constant"):
            self.assert_bad(text, Form.of, 0, [(text, 1)])

    def test_the_first_wrong_symbol(self):
        self.assert_bad("A", Form, 0, b=1, wxyz=1, A=1, Z=1)
        self.assert_bad("r01", Form, 0, **{"rr1": 1, "r02": 1, "r01": 1, "a": 1})
        self.assert_bad("", Form, 0, **{"Z": 1, "": 1})
        self.assert_bad("Z", Form.of, 0, [("b", 1), ("Z", 1), ("A", 1)])
        self.assert_bad("wxyz", Form.of, 0, [("wxyz", 1), ("", 1), ("wxyz", -1)])

    def test_sums(self):
        one, other = Form(3, a=1, b=2, r1=5), Form(-4, a=6, b=-2, c=7)
        self.assertEqual((one + other).written(), (-1, (("a", 7), ("c", 7), ("r1", 5))))
        self.assertEqual((other + one).written(), (-1, (("a", 7), ("c", 7), ("r1", 5))))
        self.assertEqual((one + 10).written(), (13, (("a", 1), ("b", 2), ("r1", 5))))
        self.assertEqual((10 + one).written(), (13, (("a", 1), ("b", 2), ("r1", 5))))
        self.assertEqual((one + one).written(), (6, (("a", 2), ("b", 4), ("r1", 10))))
        self.assertEqual(sum([one, other, one]), Form(2, a=8, b=2, c=7, r1=10))

    def test_differences(self):
        one, other = Form(3, a=1, b=2, r1=5), Form(-4, a=6, b=2, c=7)
        self.assertEqual((one - other).written(), (7, (("a", -5), ("c", -7), ("r1", 5))))
        self.assertEqual((other - one).written(), (-7, (("a", 5), ("c", 7), ("r1", -5))))
        self.assertEqual((one - 10).written(), (-7, (("a", 1), ("b", 2), ("r1", 5))))
        self.assertEqual((10 - one).written(), (7, (("a", -1), ("b", -2), ("r1", -5))))
        self.assertEqual((one - one).written(), (0, ()))

    def test_products(self):
        form = Form(3, a=1, b=-2)
        self.assertEqual((form * 4).written(), (12, (("a", 4), ("b", -8))))
        self.assertEqual((4 * form).written(), (12, (("a", 4), ("b", -8))))
        self.assertEqual((form * -1).written(), (-3, (("a", -1), ("b", 2))))
        self.assertEqual((form * 0).written(), (0, ()))
        self.assertEqual((0 * form).written(), (0, ()))
        self.assertEqual((form * 1).written(), form.written())

    def test_negation(self):
        self.assertEqual((-Form(3, a=1, b=-2)).written(), (-3, (("a", -1), ("b", 2))))
        self.assertEqual((-Form()).written(), (0, ()))

    def test_signs_need_a_form_and_what_they_know(self):
        for wrong in ("a", None, (1,), [1]):
            for call in (lambda: Form(1) + wrong, lambda: wrong + Form(1), lambda: Form(1) - wrong,
                         lambda: wrong - Form(1), lambda: Form(1) * wrong):
                with self.assertRaises(TypeError):
                    call()
        with self.assertRaises(TypeError):
            Form(1, a=1) * Form(2)

    def test_big_numbers(self):
        form = Form(BIG, a=BIG, r2=-BIG)
        self.assertEqual((form * BIG).written(), (BIG * BIG, (("a", BIG * BIG), ("r2", -BIG * BIG))))
        self.assertEqual((form + BIG).constant, 2 * BIG)
        self.assertEqual((-BIG - form).constant, -2 * BIG)
        self.assertEqual(form({"a": BIG, "r2": 1}), BIG + BIG * BIG - BIG)
        self.assertEqual(str(form), f"{BIG} + {BIG}*a - {BIG}*r2")

    def test_results_of_signs_as_of_values(self):
        some = [Form(constant, a=a, r0=r) for constant, a, r in product((-2, 0, 1), repeat=3)]
        places = [{"a": 2, "r0": 1}, {"a": 5, "r0": -3}, {}]
        for one, other in product(some, some):
            for values in places:
                self.assertEqual((one + other)(values), one(values) + other(values))
                self.assertEqual((one - other)(values), one(values) - other(values))
                self.assertEqual((-one)(values), -one(values))
                self.assertEqual((7 - one * 3)(values), 7 - one(values) * 3)
                put = dict(values, a=other(values))
                self.assertEqual(one.put("a", other)(values), one(put))

    def test_equality(self):
        form = Form(3, a=1, b=-2)
        self.assertTrue(form == Form.of(3, [("b", -2), ("a", 1), ("c", 0)]))
        self.assertFalse(form != Form(3, b=-2, a=1))
        for other in (Form(4, a=1, b=-2), Form(3, a=1), Form(3, a=1, b=2), Form(3, a=1, b=-2, c=1), Form(3, a=1, c=-2)):
            self.assertFalse(form == other)
            self.assertTrue(form != other)
        self.assertTrue(Form(3) == Form(3, a=0))

    def test_equal_to_nothing_else(self):
        self.assertFalse(Form(3) == 3)
        self.assertFalse(3 == Form(3))
        self.assertFalse(Form(0) == False)  # noqa: E712
        self.assertFalse(Form(0) == None)  # noqa: E711
        self.assertFalse(Form(3, a=1) == "3 + a")
        self.assertFalse(Form(3, a=1) == (3, (("a", 1),)))
        self.assertFalse((3, ()) == Form(3))
        self.assertFalse(Form(3) == [3])
        self.assertTrue(Form(3) != 3)

    def test_put(self):
        form = Form(3, a=2, r1=-1)
        self.assertEqual(form.put("a", Form(5, b=7)).written(), (13, (("b", 14), ("r1", -1))))
        self.assertEqual(form.put("r1", Form(-1, r1=1)).written(), (4, (("a", 2), ("r1", -1))))
        self.assertEqual(form.put("r1", Form(-1, a=1)).written(), (4, (("a", 1),)))
        self.assertEqual(form.put("a", Form(1, a=1, r1=1)).written(), (5, (("a", 2), ("r1", 1))))
        self.assertEqual(form.put("a", Form(0, a=3, b=1)).written(), (3, (("a", 6), ("b", 2), ("r1", -1))))
        self.assertEqual(form.put(symbol="a", other=Form()).written(), (3, (("r1", -1),)))

    def test_put_for_a_symbol_that_is_not_there(self):
        form = Form(3, a=2, r1=-1)
        self.assertEqual(form.put("b", Form(100, c=1)), form)
        self.assertEqual(form.put("no symbol", Form(100, c=1)), form)

    def test_arguments_and_old_forms_stay(self):
        coefficients, pairs = {"a": 1, "b": 0}, [("a", 1), ("a", 2)]
        form, listed = Form(1, **coefficients), Form.of(1, pairs)
        self.assertEqual((coefficients, pairs), ({"a": 1, "b": 0}, [("a", 1), ("a", 2)]))
        coefficients["a"] = 9
        pairs.append(("a", 9))
        self.assertEqual((form.written(), listed.written()), ((1, (("a", 1),)), (1, (("a", 3),))))
        other = Form(2, a=5, b=1)
        form + other, form - other, form * 3, -form, 3 - form, form.put("a", other), form == other, str(form)
        self.assertEqual((form.written(), other.written()), ((1, (("a", 1),)), (2, (("a", 5), ("b", 1)))))
        total = form
        total += other
        total -= 1
        total *= 2
        self.assertEqual((form.written(), total.written()), ((1, (("a", 1),)), (4, (("a", 12), ("b", 2)))))

    def test_returned_lists_are_new(self):
        form = Form(1, a=1, b=2)
        form.symbols().append("z")
        form.symbols().clear()
        self.assertEqual((form.symbols(), str(form)), (["a", "b"], "1 + a + 2*b"))

    def test_results_share_nothing(self):
        form = Form(1, a=1)
        same = form.put("b", Form(2))
        self.assertIsNot(same, form)
        self.assertIsNot(form + 0, form)
        (form + 0).constant = 9
        same.constant = 9
        self.assertEqual(form.constant, 1)

    def test_not_iterated_over(self):
        with self.assertRaises(TypeError):
            list(Form(1, a=1))

    def test_the_example(self):
        self.assertEqual(str(2 - Form(5, a=1, r3=-2) * 2), "-8 - 2*a + 4*r3")


if __name__ == "__main__":
    unittest.main()
