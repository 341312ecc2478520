"""The ways by which runs leave a function, and what giving back their lines costs."""

from owedanswers.flows import way_of
from owedanswers.forms import Form
from owedanswers.pools import HALF_SENT
from owedanswers.shapes import is_event, is_tuple
from owedanswers.tables import account, domain_of


def _left(function, table):
    """Pairs (way, entry) for all entries at which the function is left."""
    return [(way_of(entry[0]), entry) for entry in table.paper() if entry[0][0] == len(function)]


def _kinds(function, entry):
    """Whether the line can be clean, dirty and closed in an entry."""
    _, mark, _, _, low, high = entry
    if mark != "whole":
        return (False, mark != "closed", mark == "closed")
    domain = domain_of(function, entry)
    return (domain.least(Form.of(low[0], low[1])) == 0, domain.greatest(Form.of(high[0], high[1])) != 0, False)


def _kinds_by_way(function):
    """A dict from the reached ways to tuples: whether they can be clean, dirty and closed."""
    found = {}
    for way, entry in _left(function, account(function)):
        old = found.get(way, (False, False, False))
        found[way] = tuple([one or other for one, other in zip(old, _kinds(function, entry))])
    return found


def ways(function):
    """The reached ways, ascending."""
    return sorted(_kinds_by_way(function))


def kinds(function, way):
    """Whether a way, any value, can be clean, dirty and closed."""
    found = _kinds_by_way(function)
    if is_tuple(way, 0) or is_event(way):
        return found.get(way, (False, False, False))
    return (False, False, False)


def needless(function, door):
    """Pairs of a way that a door closes needlessly and how often, ascending."""
    found = []
    for way, (is_clean, is_dirty, _) in _kinds_by_way(function).items():
        if is_clean and door[way] == "close":
            found.append((way, "sometimes" if is_dirty else "always"))
    return sorted(found)


def _thrown(word, mark, most):
    """How many answers are thrown away of a line with a mark and so many answers owed."""
    if word == "drain" and mark not in HALF_SENT:
        return most
    return most + 1 if word == "ping" and mark == "whole" else 0


def thrown(function, door, lengths):
    """The most answers that are thrown away when lines of runs with some lengths are given back."""
    table = account(function)
    found = [0]
    for way, entry in _left(function, table):
        span = table.span(entry, lengths)
        if span is not None:
            found.append(_thrown(door[way], entry[1], span[1]))
    return max(found)
