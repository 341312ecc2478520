"""Situations and entries: tuples (spot, mark, lengths, rounds, low, high).

Low and high are forms, written as tuples (constant, pairs (symbol, coefficient)).
"""

from owedanswers.effects import EMPTYING, HUNGRY, fault_of, mark_behind, owed_behind

ZERO = (0, ())


def written(constant, table):
    """The form with the coefficients of a dict."""
    return (constant, tuple(sorted([(symbol, many) for symbol, many in table.items() if many != 0])))


def raised(form, many):
    """A form and an integer added."""
    return (form[0] + many, form[1])


def less(one, other):
    """The difference of two forms."""
    table = dict(one[1])
    for symbol, many in other[1]:
        table[symbol] = table.get(symbol, 0) - many
    return written(one[0] - other[0], table)


def put_before(form, symbol, name):
    """The form with `name - 1` in the place of a symbol."""
    table = dict(form[1])
    many = table.pop(symbol, 0)
    table[name] = table.get(name, 0) + many
    return written(form[0] - many, table)


class Rules:
    """What the points [24], [26] and [27] say of the entries of a function."""

    def __init__(self, chart):
        self.chart = chart
        self.flow = chart.flow
        self.lists = self.flow.function.lists
        self._owners = {f"r{row}": row for row, word in enumerate(self.flow.words) if word == "each"}

    def first(self):
        """The situation at the beginning."""
        return (self.chart.origin, "whole", tuple(["any" for _ in self.lists]), (), ZERO, ZERO)

    def word_of(self, situation, name):
        """The word of a list."""
        return situation[2][self.lists.index(name)]

    def least(self, situation, form):
        """The least value of a form over the domain of a situation, None if there is none."""
        total, pairs = form
        rounds = dict(situation[3])
        slopes = {}
        for symbol, many in pairs:
            row = self._owners.get(symbol)
            name = symbol if row is None else self.flow.listed(row)
            if row is None and self.word_of(situation, name) == "some":
                total = total + many
            if row is not None:
                # In the shortest list no round can be done, and in a longer one all but the last can.
                many = min(many, 0) if rounds[row] == "any" else 0
            slopes[name] = slopes.get(name, 0) + many
        for name, slope in slopes.items():
            if slope < 0 and self.word_of(situation, name) != "none":
                return None
        return total

    def is_at_least(self, situation, form, many):
        """Whether a form is at least an integer for all values of the domain of a situation."""
        least = self.least(situation, form)
        return least is not None and least >= many

    def is_at_most(self, situation, one, other):
        """Whether a form is at most another one for all values of the domain of a situation."""
        if one[1] == other[1]:
            return one[0] <= other[0]
        return self.is_at_least(situation, less(other, one), 0)

    def is_zero(self, situation, form):
        """Whether a form is 0 for all values of the domain of a situation."""
        return self.is_at_most(situation, form, ZERO) and self.is_at_most(situation, ZERO, form)

    def is_settled(self, situation):
        """Whether the line is closed or surely clean."""
        _, mark, _, _, low, high = situation
        if mark == "whole":
            return self.is_zero(situation, low) and self.is_zero(situation, high)
        return mark == "closed"

    def covers(self, entry, situation):
        """Whether an entry covers a situation."""
        if entry[:2] != situation[:2]:
            return False
        words = [one == "any" or one == other for one, other in zip(entry[2], situation[2])]
        rounds = [one[1] == "any" or one == other for one, other in zip(entry[3], situation[3])]
        if not all(words) or not all(rounds):
            return False
        return self.is_at_most(situation, entry[4], situation[4]) and self.is_at_most(situation, situation[5], entry[5])

    def is_fit(self, entry):
        """Whether the step at the spot of an entry surely meets no inner fault."""
        spot, mark, _, _, low, _ = entry
        if self.flow.is_left(spot):
            return True
        word = self.flow.words[spot[0]]
        if word == "retry":
            return self.is_settled(entry)
        # One answer owed is enough for a row that starves without.
        if fault_of(word, mark, 1) is not None:
            return False
        return word not in HUNGRY or self.is_at_least(entry, low, 1)

    def allows(self, entry, move):
        """Whether a move of the row of an entry is one of the entry."""
        row = entry[0][0]
        if self.flow.words[row] != "each":
            return True
        word = self.word_of(entry, self.flow.listed(row))
        return word != "none" if move == "item" else word != "some"

    def behind(self, entry, move, after):
        """The situation behind a move, as it is before what a retry does."""
        spot, mark, lengths, rounds, low, high = entry
        row = spot[0]
        word = self.flow.words[row]
        if move == "go":
            mark, low, high = self._behind_go(word, mark, low, high)
        elif word == "each":
            lengths = self._lengths_behind(lengths, self.flow.listed(row), "some" if move == "item" else "none")
            if move == "item":
                rounds = tuple(sorted(rounds + ((row, "first"),)))
        elif word == "end":
            loop = self.flow.loop(row)
            symbol = f"r{loop}"
            rounds = tuple([pair for pair in rounds if pair[0] != loop])
            if move == "item":
                rounds = tuple(sorted(rounds + ((loop, "any"),)))
            name = symbol if move == "item" else self.flow.listed(loop)
            low, high = put_before(low, symbol, name), put_before(high, symbol, name)
        return (after, mark, lengths, rounds, low, high)

    def _behind_go(self, word, mark, low, high):
        """The mark, the low and the high behind what a row does."""
        if word in EMPTYING:
            return (mark_behind(word, mark), ZERO, ZERO)
        many = owed_behind(word, 0)
        return (mark_behind(word, mark), raised(low, many), raised(high, many))

    def _lengths_behind(self, lengths, name, word):
        """The words of the lists with another one for a list."""
        return tuple([word if other == name else old for other, old in zip(self.lists, lengths)])

    def begun(self, situation):
        """The situation behind what a retry does, if its spot is at one."""
        spot, mark, lengths, rounds, _, _ = situation
        if not self.chart.is_retry(spot):
            return situation
        live = self.flow.live(spot)
        return (spot, mark, lengths, tuple([pair for pair in rounds if pair[0] in live]), ZERO, ZERO)

    def plainly(self, situation):
        """The situation with forms that do not have the lists which are empty."""
        spot, mark, lengths, rounds, low, high = situation
        gone = [name for name, word in zip(self.lists, lengths) if word == "none"]
        low, high = [(form[0], tuple([pair for pair in form[1] if pair[0] not in gone])) for form in (low, high)]
        return (spot, mark, lengths, rounds, low, high)
