"""By how much a round of an each changes what is owed."""

from owedanswers.effects import mark_behind, owed_behind


def hull(span, other):
    """The least span around a span and another one; the former may be None."""
    if span is None:
        return other
    return (min(span[0], other[0]), max(span[1], other[1]))


class Drifts:
    """What the rounds of each loop do to a line.

    A span is a pair: how many answers are owed, at least and at most, more than at the beginning of the round.
    Faults do not matter here: the entries inside the loop tell them. Nor do the ways that come to a retry on
    their way: it needs a clean line in each round, so that the round ends as it began or the next one has a fault.
    """

    def __init__(self, chart):
        self._chart = chart
        self._flow = chart.flow
        self._order = chart.ordered()
        self._places = {spot: at for at, spot in enumerate(self._order)}
        self._known = {}

    def of_round(self, first, mark):
        """The span of a round from its first spot on, None if no round comes to its end."""
        key = (first, mark)
        if key not in self._known:
            ends = self._round_ends(first, mark)
            self._known[key] = None if ends is None else ends.get(mark, (0, 0))
        return self._known[key]

    def _round_ends(self, first, mark):
        """A dict from the marks at the end of a round to spans, None if no round comes to its end."""
        loop = self._flow.loop(first[0])
        ahead = {first: {mark: (0, 0)}}
        for spot in self._order[self._places[first]:]:
            spans = ahead.pop(spot, None)
            if spans is None:
                continue
            if self._chart.is_round_end(spot):
                return spans
            for move, after in self._chart.onward(spot):
                if self._flow.loop(after[0]) == loop:
                    found = ahead.setdefault(after, {})
                    for new_mark, span in self._behind(spot, move, after, spans):
                        found[new_mark] = hull(found.get(new_mark), span)
        return None

    def _behind(self, spot, move, after, spans):
        """Pairs (mark, span) behind a move, none at a retry."""
        word = self._flow.words[spot[0]]
        if self._chart.is_retry(after):
            return []
        if move != "go":
            return list(spans.items())
        many = owed_behind(word, 0)
        return [(mark_behind(word, mark), (span[0] + many, span[1] + many)) for mark, span in spans.items()]
