"""Points [24] to [27] once more, for small functions and small numbers: forms are compared by values."""

from itertools import product

from tests.oracle import Oracle, OracleLine

MARKS = ("whole", "out", "in", "both", "closed")
NEEDS = {"ask": ("whole", "in"), "begin": ("whole", "in"), "finish": ("out", "both"), "read": ("whole", "out"),
         "head": ("whole", "out"), "body": ("in", "both")}
CHANGES = {"begin": {"whole": "out", "in": "both"}, "finish": {"out": "whole", "both": "in"},
           "head": {"whole": "in", "out": "both"}, "body": {"in": "whole", "both": "out"},
           "drain": {"in": "whole", "both": "out"}, "close": dict.fromkeys(MARKS, "closed")}
FAR = 60


class AnyLine(OracleLine):
    """A line on which nothing is a fault, whatever was done before."""

    def fault(self, word):
        return None

    def go(self, word, tag):
        return None, None


class Spots:
    """The spots that some moves reach if the line is left aside; each with its moves and the live loops."""

    def __init__(self, rows):
        self.rows = rows
        self.behind = {}
        self.live = {}
        self.first = self._follow([])

    def _follow(self, moves):
        oracle = Oracle(self.rows, {}, AnyLine())
        for move in moves:
            oracle.step(move)
        spot = oracle.spot()
        if spot not in self.behind:
            self.behind[spot] = {}
            self.live[spot] = {block.row: block.words[1] for block in oracle.loops()}
            for move in self._moves(oracle):
                self.behind[spot][move] = self._follow(moves + [move])
        return spot

    def _moves(self, oracle):
        if oracle.is_over():
            return []
        word = self.rows[oracle.row].split()[0]
        return ["item", "over"] if word in ("each", "end") else oracle.choices()


def is_int(thing):
    return thing.__class__ is int


class Checker:

    def __init__(self, function, door):
        self.function = function
        self.door = door
        self.spots = Spots(function.rows)

    def word(self, spot):
        return None if spot[0] == len(self.function.rows) else self.function.rows[spot[0]].split()[0]

    def values(self, situation):
        """Values of the domain, from the least on and far away."""
        spot, _, lengths, rounds, _, _ = situation
        sizes = {"any": (0, 1, 2, FAR), "none": (0,), "some": (1, 2, 3, FAR)}
        loops = {row: name for place in self.spots.live.values() for row, name in place.items()}
        for chosen in product(*(sizes[word] for word in lengths)):
            values = dict(zip(self.function.lists, chosen))
            ranges = [{0} if word == "first" else {0, values[loops[row]] // 2, values[loops[row]] - 1}
                      for row, word in rounds]
            for done in product(*ranges):
                yield {**values, **{f"r{row}": many for (row, _), many in zip(rounds, done)}}

    def is_entry(self, thing):
        if thing.__class__ is not tuple or len(thing) != 6:
            return False
        spot, mark, lengths, rounds, low, high = thing
        known = [other for other in self.spots.behind if repr(other) == repr(spot)]
        if not known or mark.__class__ is not str or mark not in MARKS:
            return False
        if lengths.__class__ is not tuple or len(lengths) != len(self.function.lists):
            return False
        live = self.spots.live[known[0]]
        if rounds.__class__ is not tuple or not all(pair.__class__ is tuple and len(pair) == 2 for pair in rounds):
            return False
        if not all(is_int(row) for row, _ in rounds) or [row for row, _ in rounds] != sorted(live):
            return False
        words = [word for word in lengths + tuple(word for _, word in rounds) if word.__class__ is str]
        if len(words) != len(lengths) + len(rounds) or not set(lengths) <= {"any", "none", "some"}:
            return False
        if not {word for _, word in rounds} <= {"any", "first"}:
            return False
        domain = dict(zip(self.function.lists, lengths))
        if any(domain[name] != "some" for name in live.values()):
            return False
        if self.word(spot) == "end" and dict(rounds)[max(row for row in live if row < spot[0])] != "any":
            return False
        if mark == "closed" and repr((low, high)) != "((0, ()), (0, ()))":
            return False
        symbols = set(domain) | {f"r{row}" for row in live}
        return all(self.is_form(form, symbols) for form in (low, high))

    def is_form(self, thing, symbols):
        if thing.__class__ is not tuple or len(thing) != 2 or not is_int(thing[0]) or thing[1].__class__ is not tuple:
            return False
        if not all(pair.__class__ is tuple and len(pair) == 2 and pair[0].__class__ is str for pair in thing[1]):
            return False
        names = [name for name, _ in thing[1]]
        return (names == sorted(set(names)) and set(names) <= symbols
                and all(is_int(many) and many != 0 for _, many in thing[1]))

    def is_covered(self, situation, entries):
        return any(self.covers(entry, situation) for entry in entries)

    def covers(self, entry, situation):
        if entry[:2] != situation[:2]:
            return False
        pairs = list(zip(entry[2], situation[2])) + [(one[1], other[1]) for one, other in zip(entry[3], situation[3])]
        if any(one not in ("any", other) for one, other in pairs):
            return False
        return all(value(entry[4], values) <= value(situation[4], values)
                   and value(situation[5], values) <= value(entry[5], values) for values in self.values(situation))

    def is_settled(self, situation):
        if situation[1] != "whole":
            return situation[1] == "closed"
        return all(value(form, values) == 0 for form in situation[4:] for values in self.values(situation))

    def situations(self, entry):
        """Those behind the moves of an entry, before what a retry does."""
        spot, mark, lengths, rounds, low, high = entry
        word = self.word(spot)
        for move, after in self.spots.behind[spot].items():
            forms, new_mark, new_lengths, new_rounds = [low, high], mark, dict(zip(self.function.lists, lengths)), dict(rounds)
            if word == "each":
                name = self.function.rows[spot[0]].split()[1]
                if new_lengths[name] == {"item": "none", "over": "some"}[move]:
                    continue
                new_lengths[name] = {"item": "some", "over": "none"}[move]
                if move == "item":
                    new_rounds[spot[0]] = "first"
            if word == "end":
                row = max(row for row in self.spots.live[spot] if row < spot[0])
                name = f"r{row}" if move == "item" else self.spots.live[spot][row]
                forms = [put(form, f"r{row}", name) for form in forms]
                new_rounds[row] = "any"
                if move == "over":
                    del new_rounds[row]
            if move == "go":
                new_mark = CHANGES.get(word, {}).get(mark, mark)
                by = {"ask": 1, "finish": 1, "read": -1, "body": -1}.get(word, 0)
                forms = [(form[0] + by, form[1]) for form in forms]
                if word in ("drain", "close") or new_mark == "closed":
                    forms = [(0, ()), (0, ())]
            yield (after, new_mark, tuple(new_lengths.values()), tuple(sorted(new_rounds.items())), *forms)

    def begun(self, situation):
        spot, mark, lengths, rounds, low, high = situation
        if self.word(spot) != "retry":
            return situation
        return (spot, mark, lengths, tuple(pair for pair in rounds if pair[0] in self.spots.live[spot]), (0, ()), (0, ()))

    def is_safe(self, entry):
        spot, mark = entry[:2]
        word = self.word(spot)
        if word is None:
            way = spot[2][-1] if spot[2] else ()
            return self.door[way] != "keep" or self.is_settled(entry)
        if word in NEEDS and mark not in NEEDS[word]:
            return False
        if word in ("read", "head") and any(value(entry[4], values) < 1 for values in self.values(entry)):
            return False
        if word == "retry" and not self.is_settled(entry):
            return False
        return all(self.is_settled(situation) for situation in self.situations(entry)
                   if self.word(situation[0]) == "retry")

    def are_right(self, entries):
        """Whether a tuple of entries is closed and safe."""
        if not all(self.is_entry(entry) for entry in entries):
            return False
        first = (self.spots.first, "whole", ("any",) * len(self.function.lists), (), (0, ()), (0, ()))
        situations = [first] + [self.begun(one) for entry in entries for one in self.situations(entry)]
        return all(self.is_safe(entry) for entry in entries) and all(self.is_covered(one, entries) for one in situations)


def value(form, values):
    return form[0] + sum(many * values[symbol] for symbol, many in form[1])


def put(form, symbol, name):
    """Name less one in the place of a symbol."""
    many = dict(form[1]).get(symbol, 0)
    table = {other: factor for other, factor in form[1] if other != symbol}
    table[name] = table.get(name, 0) + many
    return (form[0] - many, tuple(sorted((other, factor) for other, factor in table.items() if factor)))
