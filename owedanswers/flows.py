"""The ways of runs through the rows of a function, whatever the line is like."""

from owedanswers.functions import MIDDLES


def way_of(spot):
    """The way by which the function is left at a spot."""
    return spot[2][-1] if spot[2] else ()


def list_of(function, row):
    """The name of the list of an each."""
    return function.rows[row].split(" ")[1]


class Flow:
    """The spots of a function and the moves between them, also if some rows are spared from cuts."""

    def __init__(self, function, spared=()):
        self.function = function
        self.words = [row.split(" ")[0] for row in function.rows]
        self._steps = function.step_rows()
        self._waits = [row for row in function.waits() if row not in spared]
        self._loops = [self._around(row, "each") for row in range(len(self.words))]
        self._retries = [self._around(row, "retry") for row in range(len(self.words))]
        self._middles = {}
        self._ends = {}
        for row, word in enumerate(self.words):
            if word == "end":
                self._ends[function.block(row)] = row
            elif word in MIDDLES:
                self._middles[function.block(row)] = row

    def _around(self, row, word):
        """The rows that open the blocks of this word around a row, from the outermost inwards."""
        found = []
        block = self.function.block(row)
        while block is not None:
            if self.words[block] == word:
                found.insert(0, block)
            block = self.function.block(block)
        return found

    def loop(self, row):
        """The row of the each that a step row is inside of, None if there is none."""
        if row < len(self.words) and self._loops[row]:
            return self._loops[row][0]
        return None

    def live(self, spot):
        """The rows of the live loops of a spot, ascending."""
        rows = [spot[0]] + [event[1] for event in spot[2]]
        loops = [self.loop(row) for row in rows]
        return sorted({loop for loop in loops if loop is not None})

    def listed(self, row):
        """The name of the list of an each."""
        return list_of(self.function, row)

    def is_left(self, spot):
        """Whether the function is left there."""
        return spot[0] == len(self.words)

    def moves_of(self, row):
        """The moves of a step row, ascending, whatever the lists are like."""
        word = self.words[row]
        if word in ("each", "end"):
            return ["item", "over"]
        if word == "maybe":
            return ["no", "yes"]
        if word == "check":
            return ["fail", "go"]
        return ["cut", "go"] if row in self._waits else ["go"]

    def possible(self, row, lengths, done):
        """The moves of a step row, ascending, that are possible when so many rounds of its loop are done."""
        word = self.words[row]
        if word == "each":
            return ["item"] if lengths[self.listed(row)] > 0 else ["over"]
        if word == "end":
            return ["item"] if done + 1 < lengths[self.listed(self.loop(row))] else ["over"]
        return self.moves_of(row)

    def start(self):
        """The first spot."""
        return self._reach(0, (), ())

    def after(self, spot, move):
        """The spot behind a move."""
        row, tries, events = spot
        word = self.words[row]
        if move in ("cut", "fail"):
            return self._leave(row, tries, events + ((move, row),))
        if word == "return":
            return self._leave(row, tries, events + (("return", row),))
        return self._reach(self._target(row, move), tries, events)

    def _target(self, row, move):
        """The row that a run comes to by a move that is no event."""
        if move == "item" and self.words[row] == "end":
            return self.loop(row) + 1
        if move == "over" and self.words[row] == "each":
            return self._ends[row] + 1
        if move == "no":
            return self._middles.get(row, self._ends[row]) + 1
        return row + 1

    def _reach(self, row, tries, events):
        """The spot of a run that comes to a row, which may be one that takes no step."""
        while row < len(self.words) and row not in self._steps:
            block = self.function.block(row)
            if self.words[row] in ("else", "rescue"):
                row = self._ends[block] + 1
            elif self.words[row] == "end" and self._was_left(block, events):
                return self._leave(block, tries, events)
            else:
                row = row + 1
        if row == len(self.words):
            return (row, (), events)
        depth = len(self._retries[row])
        if self.words[row] == "retry":
            return (row, tries[:depth] + (1,), events)
        return (row, tries[:depth], events)

    def _was_left(self, block, events):
        """Whether the last event left the guarded part of a try; false for other blocks."""
        return self.words[block] == "try" and len(events) > 0 and block < events[-1][1] < self._middles[block]

    def _leave(self, row, tries, events):
        """The spot that the last event leads to when it leaves the blocks around a row."""
        word = events[-1][0]
        block = self.function.block(row)
        while block is not None:
            if self.words[block] == "try" and row < self._middles[block]:
                middle = self._middles[block]
                if self.words[middle] == "finally" or word != "return":
                    return self._reach(middle + 1, tries, events)
            if self.words[block] == "retry" and word == "fail" and self._has_tries(block, tries):
                return self._again(block, tries, events)
            block = self.function.block(block)
        return (len(self.words), (), events)

    def _has_tries(self, block, tries):
        """Whether a retry has tries left."""
        return tries[len(self._retries[block])] < int(self.function.rows[block].split(" ")[1])

    def _again(self, block, tries, events):
        """The spot at the next try of a retry."""
        depth = len(self._retries[block])
        outside = tuple([event for event in events if not block < event[1] < self._ends[block]])
        return (block, tries[:depth] + (tries[depth] + 1,), outside)
