"""Whether entries that anybody wrote are entries of a function, closed and safe."""

from owedanswers.effects import MARKS
from owedanswers.flows import way_of
from owedanswers.forms import LENGTH_WORDS, ROUND_WORDS
from owedanswers.shapes import is_number, is_spot, is_tuple
from owedanswers.situations import ZERO


def _is_form(thing, symbols):
    """Whether any value is a form in some symbols as [24] writes it."""
    if not is_tuple(thing, 2) or not is_number(thing[0]) or not isinstance(thing[1], tuple):
        return False
    last = ""
    for pair in thing[1]:
        if not is_tuple(pair, 2) or pair[0] not in symbols or pair[0] <= last:
            return False
        if not is_number(pair[1]) or pair[1] == 0:
            return False
        last = pair[0]
    return True


def _is_nothing(thing):
    """Whether any value is the form 0."""
    return is_tuple(thing, 2) and is_number(thing[0]) and thing == ZERO


def _breadth(entry):
    """About how far low and high are from each other."""
    return entry[4][0] - entry[5][0]


class Paper:
    """Entries that are to show that a function is sound for a door."""

    def __init__(self, rules, door, entries):
        self._rules = rules
        self._chart = rules.chart
        self._flow = rules.flow
        self._door = door
        self._entries = entries
        self._known = {}
        self._sorted = {}

    def is_right(self):
        """Whether all are entries of the function, closed and safe."""
        for thing in self._entries:
            if not self._is_entry(thing):
                return False
        self._known = {entry: True for entry in self._entries}
        # The broadest entries come first, as they cover most.
        for entry in sorted(self._known, key=_breadth):
            self._sorted.setdefault(entry[:2], []).append(entry)
        if not self._is_covered(self._rules.first()):
            return False
        for entry in self._known:
            if not self._is_safe(entry) or not self._is_closed(entry):
                return False
        return True

    def _is_entry(self, thing):
        """Whether any value is an entry of the function."""
        if not is_tuple(thing, 6) or not is_spot(thing[0]) or not self._chart.has(thing[0]):
            return False
        spot, mark, lengths, rounds, low, high = thing
        if mark not in MARKS or not self._are_lengths(lengths) or not self._are_rounds(spot, lengths, rounds):
            return False
        if mark == "closed":
            return _is_nothing(low) and _is_nothing(high)
        symbols = self._rules.lists + tuple([f"r{row}" for row, _ in rounds])
        return _is_form(low, symbols) and _is_form(high, symbols)

    def _are_lengths(self, thing):
        """Whether any value is a tuple with a word for each list."""
        return is_tuple(thing, len(self._rules.lists)) and all([word in LENGTH_WORDS for word in thing])

    def _are_rounds(self, spot, lengths, thing):
        """Whether any value is a tuple with a pair for each live loop of a spot."""
        live = self._flow.live(spot)
        if not is_tuple(thing, len(live)):
            return False
        here = self._flow.loop(spot[0]) if self._chart.is_round_end(spot) else None
        for row, pair in zip(live, thing):
            if not is_tuple(pair, 2) or not is_number(pair[0]) or pair[0] != row or pair[1] not in ROUND_WORDS:
                return False
            if lengths[self._rules.lists.index(self._flow.listed(row))] != "some":
                return False
            if row == here and pair[1] != "any":
                return False
        return True

    def _is_covered(self, situation):
        """Whether one entry covers a situation."""
        if situation in self._known:
            return True
        for entry in self._sorted.get(situation[:2], []):
            if self._rules.covers(entry, situation):
                return True
        return False

    def _is_closed(self, entry):
        """Whether the situation behind each move of an entry is covered."""
        for move, after in self._chart.moves_from(entry[0]):
            if self._rules.allows(entry, move):
                if not self._is_covered(self._rules.begun(self._rules.behind(entry, move, after))):
                    return False
        return True

    def _is_safe(self, entry):
        """Whether an entry is safe."""
        spot = entry[0]
        if self._flow.is_left(spot):
            return self._door[way_of(spot)] != "keep" or self._rules.is_settled(entry)
        if not self._rules.is_fit(entry):
            return False
        for move, after in self._chart.moves_from(spot):
            if self._rules.allows(entry, move) and self._chart.is_retry(after):
                if not self._rules.is_settled(self._rules.behind(entry, move, after)):
                    return False
        return True
