"""Pools, which lend lines, and doors, which say how the lines are given back."""

from owedanswers.errors import BadDoor, BadName, Cut, Failed, NotLent
from owedanswers.forms import LETTERS
from owedanswers.lines import Line

WORDS = ("keep", "close", "check", "drain", "ping")
HALF_SENT = ("out", "both")
MOST_LETTERS_OF_NAME = 8


def is_borrower(name):
    """Whether a string is the name of a borrower."""
    return 1 <= len(name) <= MOST_LETTERS_OF_NAME and all([letter in LETTERS for letter in name])


def reason_of(way):
    """The reason of a way."""
    if way == () or way[0] == "return":
        return "end"
    return way[0]


class Leave:
    """The words that say how a line is given back."""

    KEEP = "keep"
    CLOSE = "close"
    CHECK = "check"
    DRAIN = "drain"
    PING = "ping"


class Door:
    """A word for each of the three reasons, and perhaps others for single ways."""

    def __init__(self, *, end="keep", fail="keep", cut="keep"):
        for word in (end, fail, cut):
            if word not in WORDS:
                raise BadDoor(word)
        self._words = {"end": end, "fail": fail, "cut": cut}
        self._single = {}

    def __getitem__(self, at):
        if at in self._single:
            return self._single[at]
        return self._words[reason_of(at)]

    def __setitem__(self, at, worth):
        self.change(at, worth)

    def __iter__(self):
        raise TypeError("doors are not iterated over")

    def change(self, way, word):
        """Gives a single way a word of its own."""
        if word not in WORDS:
            raise BadDoor(word)
        self._single[way] = word

    def copy(self):
        """A new door with the same words."""
        other = self._alike()
        for way, word in self._single.items():
            other.change(way, word)
        return other

    def _alike(self):
        """A new door with the same words for the three reasons alone."""
        return Door(end=self._words["end"], fail=self._words["fail"], cut=self._words["cut"])

    def moved(self, places):
        """A new door, for a function whose rows stand in other places: a dict from the rows to the new ones."""
        other = self._alike()
        for way, word in self._single.items():
            if way == ():
                other.change(way, word)
            elif way[1] in places:
                other.change((way[0], places[way[1]]), word)
        return other


class Place:
    """Where a line of a pool is: lent, idle or gone."""

    def __init__(self):
        self.word = "idle"


class Pool:
    """Lines that are lent to borrowers and given back through a door."""

    def __init__(self, door):
        self._door = door.copy()
        self._lines = []
        self._places = {}
        self._asks = {}
        self.lost = ()
        self.thrown = 0

    def _numbers(self, word):
        """The numbers of the lines that are in such a place, ascending."""
        return [number for number, line in enumerate(self._lines) if self._places[line].word == word]

    def idle(self):
        """The numbers of the idle lines, ascending."""
        return self._numbers("idle")

    def lent(self):
        """The numbers of the lent lines, ascending."""
        return self._numbers("lent")

    def __len__(self):
        return len(self._lines)

    def __contains__(self, x):
        return x in self._places and self._places[x].word == "idle"

    def __getitem__(self, at):
        return self._lines[at]

    def __iter__(self):
        raise TypeError("pools are not iterated over")

    def first_idle(self):
        """The idle line that is lent next, None if there is none."""
        numbers = self.idle()
        if numbers:
            return self._lines[numbers[0]]
        return None

    def lend(self, name):
        """Lends an idle line, or a new one."""
        if not is_borrower(name):
            raise BadName(name)
        line = self.first_idle()
        if line is None:
            line = Line(len(self._lines))
            self._lines.append(line)
            self._places[line] = Place()
        self._places[line].word = "lent"
        return line

    def take(self, line, way):
        """Gives a line back; returns how many answers were thrown away."""
        if line not in self._places or self._places[line].word != "lent":
            raise NotLent(line.number)
        thrown = self._left_by(line, way)
        self._places[line].word = "idle" if line.is_open else "gone"
        self.thrown = self.thrown + thrown
        return thrown

    def _left_by(self, line, way):
        """Does to a line what the door says of a way; returns how many answers were thrown away."""
        word = self._door[way]
        if not line.is_open or word == "keep" or (word == "check" and line.is_clean):
            return 0
        if word == "close" and line.is_clean:
            self.lost = self.lost + (line.number,)
        if word == "drain" and line.mark not in HALF_SENT:
            return len(line.drain())
        if word == "ping" and line.mark == "whole":
            return len(line.drain()) + 1
        line.close(way)
        return 0

    def within(self, name, deed):
        """Lends a line for a deed, and gives it back by the way that the deed ends; returns what it returned."""
        line = self.lend(name)
        place = self._places[line]
        way = None
        try:
            result = deed(line)
            way = ()
        except Cut as cut:
            way = ("cut", cut.row)
            self.take(line, way)
            raise
        except Failed as failure:
            way = ("fail", failure.row)
            self.take(line, way)
            raise
        finally:
            if way is None:
                # Nothing can be called here, so the line is closed by hand.
                line._mark = "closed"
                line._tags = []
                place.word = "gone"
        self.take(line, way)
        return result

    def new_tag(self, name):
        """The tag of the next ask of a borrower."""
        many = self._asks.get(name, 0)
        self._asks[name] = many + 1
        return f"{name}-{many}"
