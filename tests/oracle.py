"""Points [7] and [10] to [23] once more, in the plainest way: blocks are done by calls, events are exceptions."""

from random import Random

from owedanswers.errors import BadFunction, TooMany
from owedanswers.functions import Function

WAITING = ("read", "head", "body", "finish", "pause")


class Event(Exception):
    """A return, a failure or a cut on its way outwards."""

    def __init__(self, word, row):
        super().__init__(word, row)
        self.word = word
        self.row = row


class Block:
    """The rows of a function, or of a group of rows, as a list of rows and blocks."""

    def __init__(self, row, words):
        self.row = row
        self.words = words
        self.middle = None
        self.end = None
        self.first = []
        self.second = []

    def inside(self, row):
        return self.row < row < self.end or (row == self.end and self.words[0] == "each")


def parsed(rows):
    """The rows as a list of numbers of plain rows and of blocks."""
    stack = [(None, [])]
    for at, row in enumerate(rows):
        words = row.split()
        if words[0] in ("each", "maybe", "try", "shield", "retry"):
            block = Block(at, words)
            stack[-1][1].append(block)
            stack.append((block, block.first))
        elif words[0] in ("else", "finally", "rescue"):
            block = stack.pop()[0]
            block.middle = (at, words[0])
            stack.append((block, block.second))
        elif words[0] == "end":
            stack.pop()[0].end = at
        else:
            stack[-1][1].append(at)
    return stack[0][1]


def blocks_of(nodes):
    found = []
    for node in nodes:
        if isinstance(node, Block):
            found += [node] + blocks_of(node.first) + blocks_of(node.second)
    return found


class OracleLine:
    """A line with the tags of the asks whose answers are owed."""

    def __init__(self):
        self.tags = []
        self.begun = None
        self.half_read = False
        self.is_closed = False

    @property
    def mark(self):
        if self.is_closed:
            return "closed"
        return {(0, 0): "whole", (1, 0): "out", (0, 1): "in", (1, 1): "both"}[self.begun is not None, self.half_read]

    def is_clean(self):
        return self.mark == "whole" and not self.tags

    def fault(self, word):
        if word == "retry" and not self.is_closed and not self.is_clean():
            return "stale"
        if word not in ("ask", "begin", "finish", "read", "head", "body"):
            return None
        if self.is_closed:
            return "closed"
        if word in ("ask", "begin") and self.begun is not None or word == "finish" and self.begun is None:
            return "amid"
        if word in ("read", "head") and self.half_read or word == "body" and not self.half_read:
            return "amid"
        if word in ("read", "head") and not self.tags:
            return "starved"
        return None

    def go(self, word, tag):
        """Does what a row does; returns the tag of an ask that was sent, and that of an answer that was read."""
        if word == "ask":
            self.tags.append(tag)
            return tag, None
        if word == "begin":
            self.begun = tag
        if word == "finish":
            tag, self.begun = self.begun, None
            self.tags.append(tag)
            return tag, None
        if word == "head":
            self.half_read = True
        if word in ("read", "body"):
            self.half_read = False
            return None, self.tags.pop(0)
        if word == "drain":
            self.tags, self.half_read = [], False
        if word == "close":
            self.tags, self.half_read, self.begun, self.is_closed = [], False, None, True
        return None, None


class Oracle:
    """A run of a function."""

    def __init__(self, rows, lengths, line=None):
        self.rows = rows
        self.lengths = lengths
        self.line = OracleLine() if line is None else line
        self.tries = []
        self.events = []
        self.rounds = {}
        self.sent = []
        self.got = []
        self.steps = []
        self.fault = None
        self.way = None
        self.nodes = parsed(rows)
        self.blocks = blocks_of(self.nodes)
        self.course = self._whole()
        self.row = next(self.course)

    def _whole(self):
        way = ()
        try:
            yield from self._group(self.nodes)
        except Event as event:
            way = (event.word, event.row)
        self.way = way
        yield len(self.rows)

    def _group(self, nodes):
        for node in nodes:
            if isinstance(node, Block):
                yield from getattr(self, f"_{node.words[0]}")(node)
            else:
                yield from self._plain(node)

    def _plain(self, row):
        move = yield row
        if move in ("cut", "fail") or self.rows[row] == "return":
            event = Event("return" if move == "go" else move, row)
            self.events.append((event.word, row))
            raise event

    def _each(self, block):
        move = yield block.row
        self.rounds[block.row] = 0
        while move == "item":
            yield from self._group(block.first)
            move = yield block.end
            if move == "item":
                self.rounds[block.row] += 1

    def _maybe(self, block):
        move = yield block.row
        yield from self._group(block.first if move == "yes" else block.second)

    def _shield(self, block):
        yield from self._group(block.first)

    def _try(self, block):
        try:
            yield from self._group(block.first)
        except Event as event:
            if block.middle[1] == "finally" or event.word != "return":
                yield from self._group(block.second)
            raise event
        if block.middle[1] == "finally":
            yield from self._group(block.second)

    def _retry(self, block):
        for number in range(1, int(block.words[1]) + 1):
            self.tries.append(number)
            try:
                yield block.row
                yield from self._group(block.first)
                return
            except Event as event:
                if event.word != "fail" or number == int(block.words[1]):
                    raise
                self.events = [old for old in self.events if not block.inside(old[1])]
            finally:
                self.tries.pop()

    def spot(self):
        return (self.row, tuple(self.tries), tuple(self.events))

    def loops(self):
        rows = [self.row] + [row for _, row in self.events]
        return [block for block in self.blocks if block.words[0] == "each" and any(block.inside(row) for row in rows)]

    def done(self):
        return tuple(sorted((block.row, self.rounds[block.row]) for block in self.loops()))

    def is_over(self):
        return self.fault is not None or self.way is not None

    def choices(self):
        if self.is_over():
            return []
        words = self.rows[self.row].split()
        around = [block for block in self.blocks if block.inside(self.row)]
        if words[0] == "each":
            return ["item"] if self.lengths.get(words[1], 0) > 0 else ["over"]
        if words[0] == "end":
            loop = [block for block in around if block.end == self.row][0]
            return ["item"] if self.rounds[loop.row] + 1 < self.lengths.get(loop.words[1], 0) else ["over"]
        if words[0] == "maybe":
            return ["no", "yes"]
        if words[0] == "check":
            return ["fail", "go"]
        if words[0] in WAITING and not any(block.words[0] == "shield" for block in around):
            return ["cut", "go"]
        return ["go"]

    def step(self, move, tag="tag"):
        word = self.rows[self.row].split()[0]
        self.steps.append((self.row, move))
        if move == "go":
            self.fault = self.line.fault(word)
            if self.fault is not None:
                return
            sent, got = self.line.go(word, tag)
            self.sent += [sent] if word in ("ask", "finish") else []
            self.got += [got] if word in ("read", "body") else []
        self.row = self.course.send(move)

    def report(self):
        if self.way is None:
            return None
        reason = "end" if self.way == () or self.way[0] == "return" else self.way[0]
        return (reason, len(self.sent), len(self.got))


def replayed(rows, lengths, moves):
    """The run with these moves (generators can't be copied)."""
    oracle = Oracle(rows, lengths)
    for move in moves:
        oracle.step(move)
    return oracle


def all_runs(rows, lengths):
    """All runs with these lengths."""
    ahead = [[]]
    while ahead:
        moves = ahead.pop()
        oracle = replayed(rows, lengths, moves)
        if oracle.is_over():
            yield oracle
        ahead += [moves + [move] for move in oracle.choices()]


ALL = ["ask", "ask", "ask", "read", "read", "begin", "finish", "head", "body", "pause", "check", "check", "drain", "close",
       "return"]
CALM = ["pause", "pause", "pause", "check", "check", "check", "ask", "return"]
BLOCKS = ["each a", "each b", "each a", "maybe", "maybe", "try", "try", "try", "try", "shield", "retry 2", "retry 2",
          "retry 3", "retry 1"]


def _some_rows(chance, depth, plain):
    rows = []
    for _ in range(chance.randint(0 if depth else 1, 5 - depth)):
        if depth > 4 or chance.random() < 0.5:
            rows.append(chance.choice(plain))
            continue
        word = chance.choice(BLOCKS)
        rows += [word] + _some_rows(chance, depth + 1, plain)
        if word == "try":
            rows += [chance.choice(["finally", "finally", "rescue"])] + _some_rows(chance, depth + 1, plain)
        if word == "maybe" and chance.random() < 0.5:
            rows += ["else"] + _some_rows(chance, depth + 1, plain)
        rows.append("end")
    return rows


def some_functions(seed, many, plain=ALL):
    """Functions of all kinds, always the same ones for a seed."""
    chance = Random(seed)
    found = []
    while len(found) < many:
        try:
            found.append(Function.of(*_some_rows(chance, 0, plain)))
        except (BadFunction, TooMany):
            continue
    return found
