"""Functions that mostly have no inner faults, always the same ones for a seed."""

from random import Random

from owedanswers.errors import BadFunction, TooMany
from owedanswers.functions import Function

PIECES = {
    "ask": 6, "ask, read": 8, "begin, finish, read": 3, "ask, head, body": 3, "pause": 6, "check": 6, "drain": 2,
    "maybe, ask, end": 5, "ask, ask": 2, "begin, finish": 2, "maybe, ask, else, ask, ask, end": 3,
    "maybe, ask, read, end": 4, "return": 1, "close": 1, "head, body": 1, "read": 2, "check, ask": 2, "begin": 0.4,
    "head": 0.4, "finish": 0.4, "body": 0.4,
}
FILLING = ["ask", "ask, pause", "check, ask", "begin, pause, finish"]
EMPTYING = ["read", "head, body", "read, check"]
SECOND = ["drain", "close", ""]


def rows_of(text):
    return [row for row in text.split(", ") if row]


class Maker:

    def __init__(self, seed):
        self.chance = Random(seed)

    def some(self, depth, in_each, many=None):
        if many is None:
            many = self.chance.randint(0, 3) if depth else self.chance.randint(1, 5)
        return [row for _ in range(many) for row in self.one(depth, in_each)]

    def one(self, depth, in_each):
        if depth >= 5 or self.chance.random() < 0.45:
            return rows_of(self.chance.choices(list(PIECES), list(PIECES.values()))[0])
        kind = self.chance.random()
        if kind < 0.25 and not in_each:
            return [f"each {self.chance.choice('aab')}"] + self.some(depth + 1, True) + ["end"]
        if kind < 0.3 and not in_each:
            return self.two_loops(depth)
        if kind < 0.45:
            second = ["else"] + self.some(depth + 1, in_each) if self.chance.random() < 0.5 else []
            return ["maybe"] + self.some(depth + 1, in_each) + second + ["end"]
        if kind < 0.82:
            word = "finally" if kind < 0.65 else "rescue"
            second = self.chance.choice([rows_of(text) for text in SECOND] + [self.some(depth + 1, in_each)])
            return ["try"] + self.some(depth + 1, in_each) + [word] + second + ["end"]
        opening = "shield" if kind < 0.88 else f"retry {self.chance.choice('1223')}"
        return [opening] + self.some(depth + 1, in_each) + ["end"]

    def two_loops(self, depth):
        opening = f"each {self.chance.choice('ab')}"
        first = [opening] + rows_of(self.chance.choice(FILLING)) + ["end"]
        second = [opening] + rows_of(self.chance.choice(EMPTYING)) + ["end"]
        return first + self.some(depth, False, self.chance.randint(0, 1)) + second


def likely_functions(seed, many):
    maker = Maker(seed)
    found = []
    while len(found) < many:
        try:
            found.append(Function.of(*maker.some(0, False)))
        except (BadFunction, TooMany):
            continue
    return found


def function(text):
    """The function of rows with commas between them."""
    return Function("\n".join(text.split(", ")))
