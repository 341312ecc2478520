"""Tables: between which forms the number of owed answers lies, for each spot of a function."""

from owedanswers.charts import Chart
from owedanswers.errors import Faulty
from owedanswers.flows import Flow, list_of
from owedanswers.forms import Domain, fits_length
from owedanswers.growing import entries_of
from owedanswers.hunts import Hunt
from owedanswers.shapes import is_spot


def domain_of(function, entry):
    """The domain of an entry."""
    rounds = [(f"r{row}", list_of(function, row), word) for row, word in entry[3]]
    return Domain(dict(zip(function.lists, entry[2])), rounds)


class Table:
    """The exact entries of a function without inner faults."""

    def __init__(self, function, entries):
        self._function = function
        self._entries = {spot: tuple(entries[spot]) for spot in entries}
        self._paper = tuple([entry for spot in self.spots() for entry in self._entries[spot]])

    def spots(self):
        """The spots that runs reach, ascending."""
        return sorted(self._entries)

    def entries(self, spot):
        """The entries of a spot."""
        return list(self._entries[spot]) if spot in self else []

    def paper(self):
        """All entries."""
        return self._paper

    def __len__(self):
        return len(self._paper)

    def __contains__(self, x):
        return is_spot(x) and x in self._entries

    def bounds(self, spot, lengths):
        """The least and the greatest number of answers owed at a spot for some lengths, or None."""
        spans = [self.span(entry, lengths) for entry in self.entries(spot)]
        fitting = [span for span in spans if span is not None]
        if not fitting:
            return None
        return (min([span[0] for span in fitting]), max([span[1] for span in fitting]))

    def span(self, entry, lengths):
        """The least and the greatest number of answers owed in an entry for some lengths; None if they do not fit."""
        sizes = {name: lengths.get(name, 0) for name in self._function.lists}
        if not all([fits_length(word, sizes[name]) for name, word in zip(self._function.lists, entry[2])]):
            return None
        return (self._least(entry, entry[4], sizes, 1), -self._least(entry, entry[5], sizes, -1))

    def _least(self, entry, form, sizes, sign):
        """The least value of a form, or of the negative one, for some lengths and any rounds of an entry."""
        rounds = {f"r{row}": row for row, _ in entry[3]}
        total = form[0] * sign
        for symbol, many in form[1]:
            if symbol in rounds:
                # What is 0 in a first round has no coefficient, so all rounds count here.
                most = sizes[list_of(self._function, rounds[symbol])] - 1
                total = total + min(many * sign * most, 0)
            else:
                total = total + many * sign * sizes[symbol]
        return total


def account(function):
    """The table of a function; raises Faulty if it has inner faults."""
    chart = Chart(Flow(function))
    entries = entries_of(chart)
    if entries is None:
        kind, lengths, moves = Hunt(chart, None).found()
        raise Faulty(kind, lengths, moves)
    return Table(function, entries)
