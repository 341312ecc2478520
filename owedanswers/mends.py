"""Mends: rows that are shielded and ways that are closed, so that a function is sound."""

from owedanswers.charts import Chart
from owedanswers.errors import NotCut, TooMany
from owedanswers.flows import Flow
from owedanswers.growing import entries_of, owing_ways

MOST_WAITS = 6


def _owing(function, door, spared):
    """The ways that are left owing if some rows are not cut, None if there is an inner fault then."""
    chart = Chart(Flow(function, spared))
    entries = entries_of(chart)
    return None if entries is None else owing_ways(chart, entries, door)


def _subsets(rows):
    """All lists of some of the rows, those with fewer rows first."""
    found = [[]]
    for row in rows:
        found = found + [chosen + [row] for chosen in found]
    return sorted(found, key=len)


def least_mends(function, door, *, shield=True, close=True):
    """All least sets of mends of the permitted kinds that make a function sound for a door."""
    waits = function.waits()
    if len(waits) > MOST_WAITS:
        raise TooMany("rows")
    least = []
    for spared in _subsets(waits if shield else []):
        if least and len(spared) > len(least[0]):
            break
        owing = _owing(function, door, spared)
        if owing is None or (owing and not close):
            continue
        mends = tuple([("close", way) for way in owing] + [("shield", row) for row in spared])
        if least and len(mends) < len(least[0]):
            least = []
        if not least or len(mends) == len(least[0]):
            least.append(mends)
    return sorted(least)


def _shields(mends):
    """The rows that mends shield, in the order given."""
    return [mend[1] for mend in mends if mend[0] == "shield"]


def _closings(mends):
    """The ways that mends close."""
    return [mend[1] for mend in mends if mend[0] == "close"]


def _places(function, rows):
    """For each row its number behind the shields of some rows."""
    places = {}
    for row in range(len(function)):
        before = [other for other in rows if other < row]
        places[row] = row + 2 * len(before) + (1 if row in rows else 0)
    return places


def mended(function, door, mends):
    """The function with the rows of the mends shielded, and the door with their ways closed."""
    rows = _shields(mends)
    new_function = function.shielded(rows)
    closing = door.copy()
    for way in _closings(mends):
        closing.change(way, "close")
    return (new_function, closing.moved(_places(function, rows)))


def is_good(function, door, mends):
    """Whether mends make a function sound for a door."""
    waits = function.waits()
    for row in _shields(mends):
        if row not in waits:
            raise NotCut(row)
    closing = door.copy()
    for way in _closings(mends):
        closing.change(way, "close")
    return _owing(function, closing, _shields(mends)) == []
