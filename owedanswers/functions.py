"""Client functions, written in rows."""

from owedanswers.errors import BadFunction, NotCut, TooMany
from owedanswers.forms import is_list_name

MOST_ROWS = 24
MOST_LISTS = 3
MOST_DEPTH = 5
MOST_RETRIES = 2
OPENERS = ("each", "maybe", "try", "shield", "retry")
MIDDLES = {"else": "maybe", "finally": "try", "rescue": "try"}
PLAIN = ("ask", "begin", "finish", "read", "head", "body", "pause", "check", "drain", "close", "return")
SINGLE = ("maybe", "try", "shield", "else", "finally", "rescue", "end")
WAITING = ("read", "head", "body", "finish", "pause")
WITHOUT_STEP = ("try", "finally", "rescue", "shield", "else")
TRIES = ("1", "2", "3")


def _is_written(row):
    """Whether a row, with one space between its words, is one of [7]."""
    word, _, more = row.partition(" ")
    if word == "each":
        return is_list_name(more)
    if word == "retry":
        return more in TRIES
    return row in PLAIN or row in SINGLE


def _opens_wrongly(word, parts):
    """Whether a block can't be opened there; parts as in _is_wrong."""
    if len(parts) >= MOST_DEPTH:
        return True
    if word == "each":
        return "each" in parts
    return word == "retry" and parts.count("retry") >= MOST_RETRIES


def _stops_wrongly(word, parts):
    """Whether a drain or close is barred by the each that it is inside of."""
    if "each" not in parts:
        return False
    inner = parts[parts.index("each") + 1:]
    if "rescue" not in inner:
        return True
    # The outermost rescue has the fewest blocks around it.
    return word == "close" and "retry" in inner[:inner.index("rescue")]


def _is_wrong(row, parts):
    """Whether a row is wrong there.

    Parts has a word for each open block, from the outermost inwards: that of the row that began the
    group of rows in which the place is, so `rescue` in the second part of a `try`.
    """
    if not _is_written(row):
        return True
    word = row.split(" ")[0]
    if word in OPENERS:
        return _opens_wrongly(word, parts)
    if word in MIDDLES:
        return not parts or parts[-1] != MIDDLES[word]
    if word == "end":
        return not parts or parts[-1] == "try"
    if word == "return":
        return "finally" in parts or "rescue" in parts
    return word in ("drain", "close") and _stops_wrongly(word, parts)


def _blocks_of(rows):
    """For each row the one that opens its block, or None; raises BadFunction with the first wrong row."""
    blocks = []
    opened = []
    parts = []
    for at, row in enumerate(rows):
        if _is_wrong(row, parts):
            raise BadFunction(at)
        blocks.append(opened[-1] if opened else None)
        word = row.split(" ")[0]
        if word in OPENERS:
            opened.append(at)
            parts.append(word)
        elif word in MIDDLES:
            parts[-1] = word
        elif word == "end":
            opened.pop()
            parts.pop()
    if opened:
        raise BadFunction(len(rows))
    return blocks


def _spaced(row):
    """The row with one space between its words and none around them."""
    return " ".join([word for word in row.split(" ") if word != ""])


class Function:
    """What a client does with a line, row by row."""

    def __init__(self, text):
        if not isinstance(text, str):
            raise BadFunction(-1)
        rows = text.split("\n")
        if len(rows) > MOST_ROWS:
            raise TooMany("rows")
        self.rows = tuple([_spaced(row) for row in rows])
        self._blocks = _blocks_of(self.rows)
        self.lists = tuple(sorted({row.split(" ")[1] for row in self.rows if row.startswith("each ")}))
        if len(self.lists) > MOST_LISTS:
            raise TooMany("lists")

    @classmethod
    def of(cls, *rows):
        """The function with these rows."""
        return cls("\n".join(rows))

    def __len__(self):
        return len(self.rows)

    def __str__(self):
        return "\n".join(self.rows)

    def __eq__(self, other):
        return isinstance(other, Function) and self.rows == other.rows

    def block(self, row):
        """The row that opens the innermost block around a row, or None."""
        return self._blocks[row]

    def _is_shielded(self, row):
        """Whether a row is inside a shield."""
        around = self.block(row)
        while around is not None:
            if self.rows[around] == "shield":
                return True
            around = self.block(around)
        return False

    def _is_step(self, row):
        """Whether a row takes a step."""
        if self.rows[row] == "end":
            return self.rows[self.block(row)].startswith("each ")
        return self.rows[row] not in WITHOUT_STEP

    def waits(self):
        """The rows that can be cut, ascending."""
        return [at for at, row in enumerate(self.rows) if row in WAITING and not self._is_shielded(at)]

    def step_rows(self):
        """The rows that take a step, ascending."""
        return [at for at in range(len(self.rows)) if self._is_step(at)]

    def shielded(self, rows):
        """A new function in which each of the rows has a shield of its own."""
        left = self.waits()
        for row in rows:
            if row not in left:
                raise NotCut(row)
            left.remove(row)
        return Function("\n".join([f"shield\n{row}\nend" if at in rows else row
                                   for at, row in enumerate(self.rows)]))
