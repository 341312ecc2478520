"""Histories and certificates, whoever made them."""

from owedanswers.charts import Chart
from owedanswers.effects import is_spotless
from owedanswers.flows import Flow
from owedanswers.papers import Paper
from owedanswers.runs import Walk
from owedanswers.shapes import are_numbers, is_number, is_tuple
from owedanswers.situations import Rules


def _walked(function, thing):
    """The run of a history, None if any value is none."""
    if not is_tuple(thing, 2) or not isinstance(thing[1], tuple):
        return None
    lengths, moves = thing
    if not are_numbers(lengths) or len(lengths) != len(function.lists) or not all([size >= 0 for size in lengths]):
        return None
    walk = Walk(function, dict(zip(function.lists, lengths)))
    for pair in moves:
        if not is_tuple(pair, 2) or not is_number(pair[0]) or pair[0] != walk.spot[0]:
            return None
        if pair[1] not in walk.choices():
            return None
        walk.step(pair[1])
    return walk if walk.is_over else None


def _fault(walk, door):
    """The fault of a run for a door, or None."""
    if walk.fault is not None:
        return walk.fault
    if door[walk.way] != "keep" or walk.mark == "closed" or is_spotless(walk.mark, walk.owed):
        return None
    return "left"


def is_history(function, thing):
    """Whether any value is a history of a function."""
    return _walked(function, thing) is not None


def is_certificate(function, door, thing):
    """Whether any value is a certificate for a function and a door."""
    if is_tuple(thing, 4) and thing[0] == "faulty":
        walk = _walked(function, thing[2:])
        return walk is not None and thing[1] is not None and thing[1] == _fault(walk, door)
    if is_tuple(thing, 2) and thing[0] == "sound" and isinstance(thing[1], tuple):
        return Paper(Rules(Chart(Flow(function))), door, thing[1]).is_right()
    return False
