"""All spots of a function and the moves between them, whatever the line and the lists are like."""


class Chart:
    """The spots that moves reach if nothing is a fault and an each may always go on or be over."""

    def __init__(self, flow):
        self.flow = flow
        self.origin = flow.start()
        self._steps = {}
        ahead = [self.origin]
        while ahead:
            spot = ahead.pop()
            if spot not in self._steps:
                self._steps[spot] = self._from(spot)
                ahead.extend([after for _, after in self._steps[spot]])

    def _from(self, spot):
        """Pairs (move, next spot) for the moves of a spot."""
        if self.flow.is_left(spot):
            return ()
        return tuple([(move, self.flow.after(spot, move)) for move in self.flow.moves_of(spot[0])])

    def has(self, spot):
        """Whether some moves reach a spot."""
        return spot in self._steps

    def moves_from(self, spot):
        """Pairs (move, next spot) for all moves of a spot."""
        return self._steps[spot]

    def _is_at(self, spot, word):
        """Whether a spot is at a row that begins with a word."""
        return not self.flow.is_left(spot) and self.flow.words[spot[0]] == word

    def is_retry(self, spot):
        """Whether a spot is at a retry row."""
        return self._is_at(spot, "retry")

    def is_round_end(self, spot):
        """Whether a spot is at the end row of an each."""
        return self._is_at(spot, "end")

    def onward(self, spot):
        """Pairs (move, next spot) for the moves of a spot that do not go back to the rows of an each."""
        if self.is_round_end(spot):
            return tuple([pair for pair in self._steps[spot] if pair[0] == "over"])
        return self._steps[spot]

    def ordered(self):
        """All spots, each behind those from which a move that does not go back leads to it."""
        waiting = {spot: 0 for spot in self._steps}
        for spot in list(self._steps):
            for _, after in self.onward(spot):
                waiting[after] = waiting[after] + 1
        order = []
        ready = [self.origin]
        while ready:
            spot = ready.pop()
            order.append(spot)
            for _, after in self.onward(spot):
                waiting[after] = waiting[after] - 1
                if waiting[after] == 0:
                    ready.append(after)
        return order
