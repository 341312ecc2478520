"""The least values of forms over the domains of entries, held against those that the class Domain finds."""

import unittest
from random import Random

from owedanswers.charts import Chart
from owedanswers.flows import Flow
from owedanswers.forms import Form
from owedanswers.situations import Rules, less
from owedanswers.tables import domain_of
from tests.makers import function

ROWS = "try, each a, pause, end, finally, try, each b, pause, end, finally, each a, pause, end, end, end"
SPOT = (11, (), (("cut", 2), ("cut", 7)))
LIVE = {1: "a", 6: "b", 10: "a"}


def some_form(chance, words, rounds):
    symbols = [name for name in words if chance.random() < 0.35] + [f"r{row}" for row in rounds if chance.random() < 0.35]
    pairs = tuple((symbol, chance.choice((-3, -2, -1, 1, 2, 3))) for symbol in sorted(symbols))
    return (chance.choice((0, 0, 0, 0, chance.randint(-4, 4))), pairs)


class LeastTest(unittest.TestCase):

    def setUp(self):
        self.function = function(ROWS)
        self.rules = Rules(Chart(Flow(self.function)))

    def some_entry(self, chance):
        rounds = tuple((row, chance.choice(("any", "first"))) for row in LIVE if chance.random() < 0.7)
        names = [LIVE[row] for row, _ in rounds]
        lengths = tuple("some" if name in names else chance.choice(("any", "none", "some")) for name in ("a", "b"))
        forms = [some_form(chance, ("a", "b"), [row for row, _ in rounds]) for _ in range(2)]
        return (SPOT, "whole", lengths, rounds, *forms)

    def test_least(self):
        chance = Random(30)
        found = set()
        for _ in range(3000):
            entry = self.some_entry(chance)
            low, high = entry[4:]
            domain = domain_of(self.function, entry)
            self.assertEqual(self.rules.least(entry, low), domain.least(Form.of(*low)), entry)
            self.assertEqual(self.rules.least(entry, less(high, low)), domain.least(Form.of(*high) - Form.of(*low)), entry)
            least = domain.least(Form.of(*high) - Form.of(*low))
            is_at_most = least is not None and least >= 0
            self.assertIs(self.rules.is_at_most(entry, low, high), is_at_most)
            is_settled = all(of(Form.of(*form)) == 0 for form in (low, high) for of in (domain.least, domain.greatest))
            self.assertIs(self.rules.is_settled(entry), is_settled)
            self.assertIs(self.rules.is_settled(entry[:1] + ("in",) + entry[2:]), False)
            self.assertIs(self.rules.is_settled(entry[:1] + ("closed",) + entry[2:]), True)
            found.add((least is None, is_at_most, is_settled))
        self.assertEqual(len(found), 4)


if __name__ == "__main__":
    unittest.main()
