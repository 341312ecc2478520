"""All that runs of a function with some lengths come to; runs that are equally far are followed once."""

from itertools import product

from owedanswers.runs import Walk


def walks_behind(walk):
    """The runs that are one step further."""
    found = []
    for move in walk.choices():
        further = walk.copy()
        further.step(move)
        found.append(further)
    return found


def place_of(walk):
    """What matters for the rest of a run, together with the lengths."""
    return (walk.spot, walk.mark, walk.owed, walk.done())


def states(function, lengths):
    """A dict from places to runs with the fewest steps, and a list of runs with inner faults, the shortest first."""
    first = Walk(function, lengths)
    found = {place_of(first): first}
    faulty = []
    level = [first]
    while level:
        behind = []
        for walk in level:
            for further in walks_behind(walk):
                if further.fault is not None:
                    faulty.append(further)
                elif place_of(further) not in found:
                    found[place_of(further)] = further
                    behind.append(further)
        level = behind
    return found, faulty


def all_lengths(function, most):
    """All dicts of lengths from 0 to most."""
    return [dict(zip(function.lists, sizes)) for sizes in product(range(most + 1), repeat=len(function.lists))]


def fault_for(walk, door):
    """The fault of a run that is over, for a door or, with None, for any."""
    if walk.fault is not None or door is None or walk.mark == "closed":
        return walk.fault
    is_clean = walk.mark == "whole" and walk.owed == 0
    return None if is_clean or door[walk.way] != "keep" else "left"


def fewest_steps(function, door, most):
    """The fewest steps of a run with a fault, with lengths up to most; None if there is none."""
    counts = []
    for lengths in all_lengths(function, most):
        found, faulty = states(function, lengths)
        over = faulty[:1] + [walk for walk in found.values() if walk.is_over]
        counts += [len(walk.steps) for walk in over if fault_for(walk, door) is not None]
    return min(counts, default=None)
