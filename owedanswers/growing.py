"""The exact entries of a function, found spot by spot."""

from owedanswers.drifts import Drifts
from owedanswers.flows import way_of
from owedanswers.situations import Rules, written


def grown(form, symbol, slope):
    """The form with a coefficient for a symbol that it does not have."""
    table = dict(form[1])
    table[symbol] = slope
    return written(form[0], table)


def without(form, symbol):
    """The form with 0 in the place of a symbol."""
    return (form[0], tuple([pair for pair in form[1] if pair[0] != symbol]))


class Growth:
    """Finds the entries of a function; they are exact if it has no inner faults.

    Entries of one spot are joined where both forms of the joined one are attained. Inside an each only those are
    joined whose forms differ by constants: what a round does to them is the same, so that each entry at the end
    of a round is covered by the one at the beginning that it comes from.
    """

    def __init__(self, rules):
        self._rules = rules
        self._chart = rules.chart
        self._flow = rules.flow
        self._drifts = Drifts(rules.chart)
        self._entries = {}

    def found(self):
        """A dict from the spots that runs reach to lists of entries, None if the function has inner faults."""
        ahead = {self._chart.origin: [self._rules.first()]}
        for spot in self._chart.ordered():
            if spot not in ahead:
                continue
            self._entries[spot] = self._joined(spot, ahead.pop(spot))
            for situation in self._all_behind(spot):
                if situation is None:
                    return None
                ahead.setdefault(situation[0], []).append(situation)
        return self._entries if self._are_rounds_alike() else None

    def _all_behind(self, spot):
        """The situations behind all onward moves of the entries of a spot, with None among them if one has a fault."""
        found = []
        for entry in self._entries[spot]:
            if not self._rules.is_fit(entry):
                found.append(None)
            for move, after in self._chart.onward(spot):
                if self._rules.allows(entry, move):
                    found.append(self._behind(entry, move, after))
        return found

    def _behind(self, entry, move, after):
        """The situation behind an onward move, None if a retry can't begin there."""
        situation = self._rules.behind(entry, move, after)
        if move == "item":
            situation = self._in_any_round(situation, entry[0][0])
        if self._chart.is_retry(after) and not self._rules.is_settled(situation):
            return None
        return self._rules.plainly(self._rules.begun(situation))

    def _in_any_round(self, situation, row):
        """The situation at the beginning of any round of an each, from that of the first one."""
        after, mark, lengths, rounds, low, high = situation
        drift = self._drifts.of_round(after, mark)
        if drift is None:
            return situation
        rounds = tuple([(row, "any") if pair[0] == row else pair for pair in rounds])
        symbol = f"r{row}"
        return (after, mark, lengths, rounds, grown(low, symbol, drift[0]), grown(high, symbol, drift[1]))

    def _are_rounds_alike(self):
        """Whether what is behind each round is covered by an entry at the beginning of the rounds."""
        for spot in self._entries:
            if not self._chart.is_round_end(spot):
                continue
            for move, after in self._chart.moves_from(spot):
                if move == "item" and not self._is_covered_behind(spot, move, after):
                    return False
        return True

    def _is_covered_behind(self, spot, move, after):
        """Whether the situations behind a move are covered by entries of the next spot."""
        for entry in self._entries[spot]:
            situation = self._rules.behind(entry, move, after)
            if self._chart.is_retry(after) and not self._rules.is_settled(situation):
                return False
            situation = self._rules.begun(situation)
            if not any([self._rules.covers(other, situation) for other in self._entries[after]]):
                return False
        return True

    def _joined(self, spot, situations):
        """The entries that situations of one spot are joined to."""
        entries = []
        ahead = list(situations)
        while ahead:
            fresh = ahead.pop()
            at, one = self._partner(spot, entries, fresh)
            if one is None:
                entries.append(fresh)
            else:
                ahead.append(one)
                entries.pop(at)
        return entries

    def _partner(self, spot, entries, fresh):
        """The index of an entry that can be joined with another one, and what they are joined to; or None twice."""
        for at, entry in enumerate(entries):
            one = self._one_of(spot, entry, fresh)
            if one is not None:
                return (at, one)
        return (None, None)

    def _one_of(self, spot, entry, other):
        """The entry that two of a spot are joined to, None if they are not joined."""
        if entry[1] != other[1] or entry[3] != other[3]:
            return None
        if self._flow.loop(spot[0]) is not None:
            if entry[2] != other[2] or entry[4][1] != other[4][1] or entry[5][1] != other[5][1]:
                return None
        if entry[2] == other[2]:
            return self._around(entry, other)
        if self._rules.covers(entry, other):
            return entry
        if self._rules.covers(other, entry):
            return other
        return self._of_any_length(entry, other) or self._of_any_length(other, entry)

    def _around(self, entry, other):
        """The entry around two with one domain, None if neither low or neither high is the lesser one."""
        low = self._lesser(entry, entry[4], other[4])
        lesser_high = self._lesser(entry, entry[5], other[5])
        if low is None or lesser_high is None:
            return None
        return entry[:4] + (low, other[5] if lesser_high == entry[5] else entry[5])

    def _lesser(self, situation, one, other):
        """The one of two forms that is at most the other one in a domain, or None."""
        if self._rules.is_at_most(situation, one, other):
            return one
        return other if self._rules.is_at_most(situation, other, one) else None

    def _of_any_length(self, entry, other):
        """The entry for any length of a list that is empty in one and not in the other, if that makes one of both."""
        unlike = [at for at in range(len(entry[2])) if entry[2][at] != other[2][at]]
        if len(unlike) != 1 or entry[2][unlike[0]] != "none" or other[2][unlike[0]] != "some":
            return None
        name = self._rules.lists[unlike[0]]
        if without(other[4], name) != entry[4] or without(other[5], name) != entry[5]:
            return None
        lengths = other[2][:unlike[0]] + ("any",) + other[2][unlike[0] + 1:]
        return other[:2] + (lengths,) + other[3:]


def entries_of(chart):
    """A dict from the spots that runs reach to lists of entries, None if the function has inner faults."""
    return Growth(Rules(chart)).found()


def owing_ways(chart, entries, door):
    """The ways, ascending, whose word is `keep` and by which a run leaves a line neither clean nor closed."""
    rules = Rules(chart)
    found = []
    for spot in sorted(entries):
        if chart.flow.is_left(spot) and door[way_of(spot)] == "keep":
            if not all([rules.is_settled(entry) for entry in entries[spot]]):
                found.append(way_of(spot))
    return sorted(set(found))
