"""Runs of functions: step by step, on the lines of a pool, and all at once."""

from owedanswers.effects import READING, SENDING, fault_of, mark_behind, owed_behind
from owedanswers.errors import BadMove, BadName
from owedanswers.flows import Flow, way_of
from owedanswers.pools import is_borrower, reason_of
from owedanswers.shapes import is_number, is_tuple
from owedanswers.tallies import Tally


def _lengths_of(function, lengths):
    """The length of each list of a function."""
    return {name: lengths.get(name, 0) for name in function.lists}


class Walk:
    """A run, step by step, on a line that is clean at its beginning."""

    def __init__(self, function, lengths):
        self._flow = Flow(function)
        self._lengths = _lengths_of(function, lengths)
        self._rounds = {}
        self._steps = []
        self._mark = "whole"
        self._owed = 0
        self.asked = 0
        self.taken = 0
        self.fault = None
        self._come_to(self._flow.start())

    def _come_to(self, spot):
        """Goes on at a spot; what follows from the spot is made to fit."""
        self.spot = spot
        self.is_over = self._flow.is_left(spot)
        self.way = None
        self.report = None
        if self.is_over:
            self.way = way_of(spot)
            self.report = (reason_of(self.way), self.asked, self.taken)

    @property
    def mark(self):
        """The mark of the line."""
        return self._mark

    @property
    def owed(self):
        """How many answers are owed on the line."""
        return self._owed

    @property
    def steps(self):
        """The pairs (row, move) of all steps so far."""
        return tuple(self._steps)

    def begin_on(self, mark, owed):
        """Puts the run, before its first step, on a line with another mark and other answers owed."""
        self._mark = mark
        self._owed = owed

    def done(self):
        """Pairs (row, rounds done) for the live loops of the spot, ascending."""
        return tuple([(loop, self._rounds[loop]) for loop in self._flow.live(self.spot)])

    def choices(self):
        """The possible moves, ascending."""
        if self.is_over:
            return []
        row = self.spot[0]
        return self._flow.possible(row, self._lengths, self._rounds.get(self._flow.loop(row), 0))

    def step(self, move):
        """Does a step; returns whether the run goes on."""
        if move not in self.choices():
            raise BadMove(len(self._steps))
        row = self.spot[0]
        self._steps.append((row, move))
        if move == "go":
            self.fault = fault_of(self._flow.words[row], self._mark, self._owed)
            if self.fault is not None:
                self.is_over = True
                return False
            self._go(self._flow.words[row])
        if move == "item":
            self._begin_round(row)
        self._come_to(self._flow.after(self.spot, move))
        return not self.is_over

    def _go(self, word):
        """Does to the line what a row does."""
        self._mark = mark_behind(word, self._mark)
        self._owed = owed_behind(word, self._owed)
        if word in SENDING:
            self.asked = self.asked + 1
        if word in READING:
            self.taken = self.taken + 1

    def _begin_round(self, row):
        """Counts the rounds of a loop at the move `item` of its each or its end."""
        if self._flow.words[row] == "each":
            self._rounds[row] = 0
        else:
            loop = self._flow.loop(row)
            self._rounds[loop] = self._rounds[loop] + 1

    def copy(self):
        """A new run, equally far."""
        other = Walk(self._flow.function, self._lengths)
        other._rounds = dict(self._rounds)
        other._steps = list(self._steps)
        other._mark = self._mark
        other._owed = self._owed
        other.asked = self.asked
        other.taken = self.taken
        other._come_to(self.spot)
        other.fault = self.fault
        other.is_over = self.is_over
        return other


class Run:
    """What a borrower did with a line."""

    def __init__(self, number, sent, got, strangers, left_by, stopped, thrown):
        self.number = number
        self.sent = tuple(sent)
        self.got = tuple(got)
        self.strangers = tuple(strangers)
        self.left_by = left_by
        self.stopped = stopped
        self.thrown = thrown


def _planned(walk, moves):
    """Does the steps of a run ahead of the line; raises BadMove with the first that is not possible."""
    for at, pair in enumerate(moves):
        if not is_tuple(pair, 2):
            raise BadMove(at)
        row, move = pair
        if not is_number(row) or row != walk.spot[0]:
            raise BadMove(at)
        walk.step(move)
    if not walk.is_over:
        raise BadMove(len(moves))


class Deed:
    """What a borrower does with the line that it got, and the tags of its asks and answers."""

    def __init__(self, pool, name, line):
        self._pool = pool
        self._name = name
        self._line = line
        self._begun = None
        self._own = {}
        self.sent = []
        self.got = []

    def _new_tag(self):
        """The tag of the next own ask."""
        tag = self._pool.new_tag(self._name)
        self._own[tag] = True
        return tag

    def go(self, word):
        """Does to the line what a row does."""
        if word == "ask":
            tag = self._new_tag()
            self._line.ask(tag)
            self.sent.append(tag)
        elif word == "begin":
            self._begun = self._new_tag()
            self._line.begin(self._begun)
        elif word == "finish":
            self._line.finish()
            # Another borrower may have begun the ask.
            if self._begun is not None:
                self.sent.append(self._begun)
            self._begun = None
        elif word == "read":
            self.got.append(self._line.read())
        elif word == "head":
            self._line.head()
        elif word == "body":
            self.got.append(self._line.body())
        elif word == "drain":
            self._line.drain()
        elif word == "close":
            self._line.close()

    def unknown(self):
        """The tags of the answers to asks that are not its own."""
        return [tag for tag in self.got if tag not in self._own]


def run(pool, name, function, lengths, moves):
    """Runs a function on a line of a pool; moves are pairs (row, move) for all steps."""
    if not is_borrower(name):
        raise BadName(name)
    walk = Walk(function, lengths)
    idle = pool.first_idle()
    if idle is not None:
        walk.begin_on(idle.mark, idle.owed)
    _planned(walk, moves)
    line = pool.lend(name)
    deed = Deed(pool, name, line)
    played = walk.steps if walk.fault is None else walk.steps[:-1]
    for row, move in played:
        if move == "go":
            deed.go(function.rows[row])
    if walk.fault is not None:
        line.close(walk.fault)
    # Of a line that is closed already nothing is thrown away, whatever the way.
    thrown = pool.take(line, walk.way if walk.fault is None else ())
    return Run(line.number, deed.sent, deed.got, deed.unknown(), walk.way, walk.fault, thrown)


class Client:
    """A function and the name of a borrower that runs it."""

    def __init__(self, function, name):
        self.function = function
        self.name = name

    def __call__(self, pool, lengths, moves):
        return run(pool, self.name, self.function, lengths, moves)


def reports(function, lengths):
    """All different reports of runs with these lengths, ascending."""
    return Tally(Flow(function), _lengths_of(function, lengths)).reports()
