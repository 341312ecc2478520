"""The shortest runs that have a fault."""

from owedanswers.effects import fault_of, is_spotless, mark_behind, owed_behind
from owedanswers.flows import way_of

UNKNOWN = (0, False)


class Hunt:
    """Looks for a run with a fault, over all lengths of the lists, the shorter runs first.

    A state is a tuple (spot, mark, owed, begun, known). Known has a pair for each list: its least length, and
    whether that is its length; begun is the number of rounds begun of the present loop. A loop over a list of which
    nothing is known and that does not come again has no begun: a run may choose how often it goes on.
    """

    def __init__(self, chart, door):
        self._chart = chart
        self._flow = chart.flow
        self._door = door
        self._lists = self._flow.function.lists
        self._places = self._list_places()
        self._later = self._loops_later()
        self._needless = {spot: self._needless_at(spot) for spot in self._later}
        self._before = {}

    def _list_places(self):
        """For the row of each loop and that of its end the place of the list among the lists."""
        places = {}
        for row in self._flow.function.step_rows():
            if self._flow.words[row] in ("each", "end"):
                each = row if self._flow.words[row] == "each" else self._flow.loop(row)
                places[row] = self._lists.index(self._flow.listed(each))
        return places

    def _loops_later(self):
        """For each spot a dict of the places of the lists over which a loop may begin there or later."""
        later = {}
        for spot in self._chart.ordered()[::-1]:
            later[spot] = {}
            for _, after in self._chart.onward(spot):
                later[spot].update(later[after])
            if not self._flow.is_left(spot) and self._flow.words[spot[0]] == "each":
                later[spot][self._places[spot[0]]] = True
        return later

    def _needless_at(self, spot):
        """The places of the lists of which nothing matters at a spot."""
        here = self._places.get(self._flow.loop(spot[0]))
        return [at for at in range(len(self._lists)) if at != here and at not in self._later[spot]]

    def found(self):
        """A tuple (kind, lengths, moves) for a run with a fault than which no run with a fault is shorter."""
        level = [(self._chart.origin, "whole", 0, 0, tuple([UNKNOWN for _ in self._lists]))]
        while level:
            behind = []
            for state in level:
                for move, after in self._chart.moves_from(state[0]):
                    kind, new_state = self._step(state, move, after)
                    if kind is not None:
                        return self._told(kind, state, move)
                    if new_state is not None and new_state not in self._before:
                        self._before[new_state] = (state, move)
                        behind.append(new_state)
            level = behind
        return None

    def _step(self, state, move, after):
        """The fault of a step and the state behind it; each may be None, both if the step is not possible."""
        spot, mark, owed, begun, known = state
        word = self._flow.words[spot[0]]
        if move == "go":
            fault = fault_of(word, mark, owed)
            if fault is not None:
                return (fault, None)
            mark, owed = mark_behind(word, mark), owed_behind(word, owed)
        elif word in ("each", "end"):
            begun, known = self._choose(spot, move, begun, known, after)
            if known is None:
                return (None, None)
        if self._is_left_owing(after, mark, owed):
            return ("left", None)
        if begun > 0 and self._flow.loop(after[0]) is None:
            begun = 0
        for at in self._needless[after]:
            known = self._learnt(known, at, UNKNOWN)
        return (None, (after, mark, owed, begun, known))

    def _is_left_owing(self, spot, mark, owed):
        """Whether a run that comes to a spot has the fault `left`."""
        if self._door is None or not self._flow.is_left(spot) or mark == "closed" or is_spotless(mark, owed):
            return False
        return self._door[way_of(spot)] == "keep"

    def _choose(self, spot, move, begun, known, after):
        """The rounds begun and what is known behind a move of an each or its end; None for both if not possible."""
        at = self._places[spot[0]]
        if begun == 0 and known[at] == UNKNOWN and at not in self._later[after]:
            return (0, known)
        least, is_exact = known[at]
        if move == "over":
            return (0, self._learnt(known, at, (begun, True))) if begun == least else (None, None)
        if is_exact and begun == least:
            return (None, None)
        return (begun + 1, self._learnt(known, at, (max(least, begun + 1), is_exact)))

    def _learnt(self, known, at, pair):
        """What is known of the lists, with another pair for one of them."""
        if known[at] == pair:
            return known
        return known[:at] + (pair,) + known[at + 1:]

    def _told(self, kind, state, move):
        """The run that comes to a state and ends with a fault at a move."""
        moves = [(state[0][0], move)]
        while state in self._before:
            state, move = self._before[state]
            moves.insert(0, (state[0][0], move))
        return (kind, self._least_lengths(moves), tuple(moves))

    def _least_lengths(self, moves):
        """The least lengths of the lists for some moves."""
        lengths = [0 for _ in self._lists]
        begun = 0
        for row, move in moves:
            if move == "item":
                begun = 1 if self._flow.words[row] == "each" else begun + 1
                lengths[self._places[row]] = max(lengths[self._places[row]], begun)
        return tuple(lengths)
