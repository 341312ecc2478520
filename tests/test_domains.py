"""[5], [2] and the class Domain of the section owedanswers/forms.py."""

import unittest
from itertools import product

from owedanswers.errors import BadDomain
from owedanswers.forms import Domain, Form

BIG = 10 ** 60 - 1
NO_NAMES = ["", "abcd", "A", "a1", "r1", "r0", "a ", "a b", " ", "1", "aB", "_"]
NO_ROUNDS = ["", "r", "a", "ab", "r01", "r00", "R1", "r 1", "rr1", "r1a", "1", "r" + "9" * 61, " r1", "r1 "]


def values_up_to(lengths, rounds, most):
    """All values of a domain whose lengths are at most a number, counted out by the words of [5]."""
    names = sorted(lengths)
    for numbers in product(range(most + 1), repeat=len(names)):
        values = dict(zip(names, numbers))
        words = {"any": 0, "some": 1}
        if any(n != 0 if lengths[name] == "none" else n < words[lengths[name]] for name, n in values.items()):
            continue
        spans = [range(1) if word == "first" else range(values[name]) for _, name, word in rounds]
        for done in product(*spans):
            yield {**values, **dict(zip([symbol for symbol, _, _ in rounds], done))}


class DomainErrorsTest(unittest.TestCase):

    def assert_bad(self, symbol, lengths, rounds=()):
        for kind in (list, tuple):
            with self.assertRaises(BadDomain) as caught:
                Domain(lengths, kind(rounds))
            self.assertEqual(caught.exception.symbol, symbol)

    def test_names_that_are_none(self):
        for name in NO_NAMES:
            self.assert_bad(name, {name: "any"})

    def test_names_that_are_some(self):
        for name in ("a", "z", "r", "ab", "zzz", "rr", "if"):
            self.assertEqual(Domain({name: "any"}).symbols(), [name])

    def test_words_of_lengths(self):
        for word in ("", "Any", "first", "all", " any", "0", "any "):
            self.assert_bad("b", {"a": "any", "b": word})
        for word in ("any", "none", "some"):
            self.assertEqual(Domain({"b": word}).symbols(), ["b"])

    def test_the_first_name_ascending(self):
        self.assert_bad("b", {"d": "?", "b": "?", "a": "any", "c": "?"})
        self.assert_bad("B", {"b": "?", "B": "any"})
        self.assert_bad("b", {"c1": "any", "b": "?"})
        self.assert_bad("a1", {"b": "?", "a1": "any"})

    def test_names_before_rounds(self):
        self.assert_bad("z", {"z": "?", "a": "some"}, [("r", "a", "any")])

    def test_symbols_of_rounds(self):
        for symbol in NO_ROUNDS:
            self.assert_bad(symbol, {"a": "some"}, [(symbol, "a", "any")])
        for symbol in ("r0", "r10", "r" + "9" * 60):
            self.assertEqual(Domain({"a": "some"}, [(symbol, "a", "any")]).symbols(), ["a", symbol])

    def test_symbols_that_occurred_before(self):
        self.assert_bad("r1", {"a": "some"}, [("r1", "a", "any"), ("r1", "a", "any")])
        self.assert_bad("r1", {"a": "some", "b": "some"}, [("r1", "a", "any"), ("r2", "a", "any"), ("r1", "b", "first")])

    def test_lists_of_rounds(self):
        for name in ("b", "", "A", "r1", "some"):
            self.assert_bad("r1", {"a": "some"}, [("r1", name, "any")])
        for word in ("any", "none"):
            self.assert_bad("r1", {"a": word}, [("r1", "a", "any")])
            self.assert_bad("r1", {"a": word, "b": "some"}, [("r0", "b", "any"), ("r1", "a", "first")])

    def test_words_of_rounds(self):
        for word in ("", "some", "none", "First", "any ", "last"):
            self.assert_bad("r1", {"a": "some"}, [("r1", "a", word)])
        for word in ("first", "any"):
            self.assertEqual(Domain({"a": "some"}, [("r1", "a", word)]).symbols(), ["a", "r1"])

    def test_the_first_of_rounds_as_given(self):
        self.assert_bad("r9", {"a": "some"}, [("r2", "a", "any"), ("r9", "b", "any"), ("r1", "a", "?")])
        self.assert_bad("r1", {"a": "some"}, [("r1", "a", "?"), ("r0", "b", "any")])
        self.assert_bad("r3", {"a": "some"}, [("r3", "b", "any"), ("r", "a", "any")])
        self.assert_bad("r2", {"a": "some"}, [("r2", "a", "any"), ("r2", "a", "any"), ("x", "a", "any")])


class DomainTest(unittest.TestCase):

    def test_defined_in_this_file(self):
        self.assertEqual(Domain.__module__, "owedanswers.forms")
        for name in ("symbols", "least", "greatest"):
            self.assertIn(name, vars(Domain))

    def test_symbols(self):
        domain = Domain({"b": "some", "abc": "none", "r": "any"}, [("r3", "b", "any"), ("r10", "b", "first")])
        self.assertEqual(domain.symbols(), ["abc", "b", "r", "r10", "r3"])
        self.assertEqual(Domain({}).symbols(), [])
        self.assertEqual(Domain(lengths={"a": "some"}, rounds=(("r0", "a", "any"),)).symbols(), ["a", "r0"])

    def test_arguments_are_copied_and_stay(self):
        lengths, rounds = {"a": "some", "b": "any"}, [("r0", "a", "any")]
        domain = Domain(lengths, rounds)
        self.assertEqual((lengths, rounds), ({"a": "some", "b": "any"}, [("r0", "a", "any")]))
        lengths["c"] = "any"
        lengths["a"] = "none"
        rounds.append(("r5", "a", "any"))
        self.assertEqual(domain.symbols(), ["a", "b", "r0"])
        self.assertIn({"a": 3, "b": 0, "r0": 2}, domain)
        self.assertEqual(domain.least(Form(0, a=1)), 1)
        values, form = {"a": 3, "b": 0, "r0": 2}, Form(1, a=1, b=1, r0=-1)
        values in domain, domain.least(form), domain.greatest(form)
        self.assertEqual((values, str(form)), ({"a": 3, "b": 0, "r0": 2}, "1 + a + b - r0"))

    def test_returned_lists_are_new(self):
        domain = Domain({"a": "some"}, [("r0", "a", "any")])
        domain.symbols().append("z")
        domain.symbols().clear()
        self.assertEqual(domain.symbols(), ["a", "r0"])
        self.assertIn({"a": 1, "r0": 0}, domain)

    def test_lengths_at_the_bounds(self):
        inside = {"any": (0, 1, 2, BIG), "none": (0,), "some": (1, 2, BIG)}
        outside = {"any": (-1, -2, -BIG), "none": (-1, 1, BIG), "some": (0, -1, -BIG)}
        for word in inside:
            for n in inside[word]:
                self.assertIs({"a": n} in Domain({"a": word}), True)
            for n in outside[word]:
                self.assertIs({"a": n} in Domain({"a": word}), False)

    def test_rounds_at_the_bounds(self):
        free = Domain({"a": "some"}, [("r4", "a", "any")])
        for n, done, fits in ((1, 0, True), (1, 1, False), (1, -1, False), (3, 0, True), (3, 2, True), (3, 3, False),
                              (3, -1, False), (0, 0, False), (0, -1, False), (BIG, BIG - 1, True), (BIG, BIG, False)):
            self.assertIs({"a": n, "r4": done} in free, fits, (n, done))
        first = Domain({"a": "some"}, [("r4", "a", "first")])
        for n, done, fits in ((1, 0, True), (3, 0, True), (3, 1, False), (3, -1, False), (0, 0, False)):
            self.assertIs({"a": n, "r4": done} in first, fits, (n, done))

    def test_keys_of_values(self):
        domain = Domain({"a": "some", "b": "any"}, [("r4", "a", "any")])
        self.assertIs({"r4": 0, "b": 0, "a": 1} in domain, True)
        for values in ({}, {"a": 1}, {"a": 1, "b": 0}, {"a": 1, "r4": 0}, {"b": 0, "r4": 0},
                       {"a": 1, "b": 0, "r4": 0, "c": 0}, {"a": 1, "b": 0, "r4": 0, "": 0}, {"a": 1, "b": 0, "r5": 0},
                       {"a": 1, "c": 0, "r4": 0}):
            self.assertIs(values in domain, False, values)
        self.assertIs({} in Domain({}), True)
        self.assertIs({"a": 0} in Domain({}), False)

    def test_each_value_counts(self):
        domain = Domain({"a": "some", "b": "none", "c": "any"}, [("r1", "a", "any"), ("r2", "a", "first")])
        good = {"a": 3, "b": 0, "c": 2, "r1": 2, "r2": 0}
        self.assertIs(good in domain, True)
        for symbol, n in (("a", 2), ("a", 0), ("b", 1), ("c", -1), ("r1", 3), ("r1", -1), ("r2", 1), ("r2", -1)):
            self.assertIs({**good, symbol: n} in domain, False, (symbol, n))

    def test_rounds_look_at_their_own_list(self):
        domain = Domain({"a": "some", "b": "some"}, [("r1", "a", "any"), ("r2", "b", "any")])
        self.assertIs({"a": 2, "b": 5, "r1": 1, "r2": 4} in domain, True)
        self.assertIs({"a": 5, "b": 2, "r1": 1, "r2": 4} in domain, False)
        self.assertIs({"a": 5, "b": 2, "r1": 4, "r2": 1} in domain, True)


class BoundsTest(unittest.TestCase):

    def assert_bounds(self, domain, form, least, greatest):
        self.assertEqual((domain.least(form), domain.greatest(form)), (least, greatest), str(form))

    def test_a_constant(self):
        for domain in (Domain({}), Domain({"a": "some"}, [("r1", "a", "any")])):
            self.assert_bounds(domain, Form(7), 7, 7)
            self.assert_bounds(domain, Form(-BIG), -BIG, -BIG)

    def test_each_word(self):
        self.assert_bounds(Domain({"a": "any"}), Form(1, a=2), 1, None)
        self.assert_bounds(Domain({"a": "any"}), Form(1, a=-2), None, 1)
        self.assert_bounds(Domain({"a": "some"}), Form(1, a=2), 3, None)
        self.assert_bounds(Domain({"a": "some"}), Form(1, a=-2), None, -1)
        self.assert_bounds(Domain({"a": "none"}), Form(1, a=2), 1, 1)
        self.assert_bounds(Domain({"a": "none"}), Form(1, a=-2), 1, 1)

    def test_each_word_of_rounds(self):
        first = Domain({"a": "some"}, [("r1", "a", "first")])
        self.assert_bounds(first, Form(1, r1=5), 1, 1)
        self.assert_bounds(first, Form(1, r1=-5), 1, 1)
        self.assert_bounds(first, Form(1, a=2, r1=-5), 3, None)
        free = Domain({"a": "some"}, [("r1", "a", "any")])
        self.assert_bounds(free, Form(1, r1=5), 1, None)
        self.assert_bounds(free, Form(1, r1=-5), None, 1)

    def test_length_and_rounds_together(self):
        domain = Domain({"a": "some"}, [("r1", "a", "any")])
        self.assert_bounds(domain, Form(0, a=1, r1=-1), 1, None)
        self.assert_bounds(domain, Form(0, a=-1, r1=1), None, -1)
        self.assert_bounds(domain, Form(0, a=2, r1=-1), 2, None)
        self.assert_bounds(domain, Form(0, a=1, r1=-2), None, None)
        self.assert_bounds(domain, Form(0, a=-1, r1=2), None, None)
        self.assert_bounds(domain, Form(5, a=1, r1=1), 6, None)
        self.assert_bounds(domain, Form(5, a=-1, r1=-1), None, 4)
        self.assert_bounds(domain, Form(0, a=BIG, r1=-BIG), BIG, None)
        self.assert_bounds(domain, Form(0, a=BIG - 1, r1=-BIG), None, None)

    def test_several_rounds_of_one_list(self):
        domain = Domain({"a": "some"}, [("r1", "a", "any"), ("r2", "a", "any"), ("r3", "a", "first")])
        self.assert_bounds(domain, Form(0, a=2, r1=-1, r2=-1), 2, None)
        self.assert_bounds(domain, Form(0, a=2, r1=-1, r2=-2), None, None)
        self.assert_bounds(domain, Form(0, a=2, r1=-2, r2=5), 2, None)
        self.assert_bounds(domain, Form(0, a=-5, r1=2, r2=3, r3=7), None, -5)
        self.assert_bounds(domain, Form(0, a=-5, r1=2, r2=4), None, None)
        self.assert_bounds(domain, Form(0, a=-2, r1=2, r2=-9), None, -2)
        self.assert_bounds(domain, Form(0, r1=1, r2=-1), None, None)

    def test_rounds_of_several_lists(self):
        domain = Domain({"a": "some", "b": "some"}, [("r1", "a", "any"), ("r2", "b", "any")])
        self.assert_bounds(domain, Form(0, a=3, b=1, r1=-3, r2=-1), 4, None)
        self.assert_bounds(domain, Form(0, a=3, b=1, r1=-1, r2=-3), None, None)
        self.assert_bounds(domain, Form(0, a=1, b=-1, r1=-1, r2=1), None, None)

    def test_symbols_that_are_not_in_the_domain(self):
        domain = Domain({"a": "some"}, [("r1", "a", "any")])
        self.assert_bounds(domain, Form(4, b=-7, r2=5), 4, 4)
        self.assert_bounds(domain, Form(4, a=1, b=-7, r2=-5), 5, None)
        self.assert_bounds(Domain({}), Form(4, a=1, r2=-5), 4, 4)

    def test_by_name(self):
        domain = Domain({"a": "some"})
        self.assertEqual((domain.least(form=Form(0, a=1)), domain.greatest(form=Form(0, a=-1))), (1, -1))

    def test_as_counted_out(self):
        shapes = [
            ({"a": "any"}, []), ({"a": "none", "b": "some"}, []), ({"a": "some"}, [("r1", "a", "first")]),
            ({"a": "some"}, [("r1", "a", "any")]), ({"a": "some"}, [("r1", "a", "any"), ("r2", "a", "any")]),
            ({"a": "some"}, [("r2", "a", "any"), ("r1", "a", "first")]),
            ({"a": "some", "b": "some"}, [("r1", "a", "any"), ("r2", "b", "any")]),
            ({"a": "some", "b": "any"}, [("r2", "a", "any")]),
        ]
        for lengths, rounds in shapes:
            domain = Domain(lengths, rounds)
            near = list(values_up_to(lengths, rounds, 2))
            far = list(values_up_to(lengths, rounds, 4))
            for values in far:
                self.assertIn(values, domain)
            symbols = domain.symbols()
            for numbers in product((-2, -1, 0, 1), repeat=len(symbols)):
                form = Form.of(3, list(zip(symbols, numbers)))
                # A form that still falls or grows between the two has no bound.
                lows = [min(form(values) for values in some) for some in (near, far)]
                highs = [max(form(values) for values in some) for some in (near, far)]
                self.assert_bounds(domain, form, lows[0] if lows[0] == lows[1] else None,
                                   highs[0] if highs[0] == highs[1] else None)

    def test_membership_as_counted_out(self):
        lengths, rounds = {"a": "some", "b": "any"}, [("r1", "a", "any"), ("r2", "a", "first")]
        domain = Domain(lengths, rounds)
        inside = list(values_up_to(lengths, rounds, 3))
        for numbers in product(range(-1, 4), repeat=4):
            values = dict(zip(("a", "b", "r1", "r2"), numbers))
            self.assertIs(values in domain, values in inside, values)

    def test_the_example(self):
        domain = Domain({"a": "some", "b": "any"}, [("r4", "a", "any")])
        self.assertEqual((domain.least(Form(1, a=2, b=1, r4=-2)), domain.greatest(Form(1, a=-1, r4=1)),
                          domain.least(Form(0, b=-1))), (3, 0, None))


if __name__ == "__main__":
    unittest.main()
