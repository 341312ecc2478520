"""What a borrower that leaves a line owing does to the next one."""

from owedanswers.functions import Function
from owedanswers.pools import Pool
from owedanswers.runs import Walk, run


def plain():
    """The function that asks and reads the answer."""
    return Function.of("ask", "read")


def _onward(pool, function):
    """The moves of a run on the next line of a pool that is not cut."""
    walk = Walk(function, {})
    line = pool.first_idle()
    if line is not None:
        walk.begin_on(line.mark, line.owed)
    while not walk.is_over:
        walk.step("go")
    return walk.steps


def shown(function, door, lengths, moves):
    """The run of a history on a new pool and, unless it meets an inner fault, that of the next borrower."""
    pool = Pool(door)
    first = run(pool, "first", function, dict(zip(function.lists, lengths)), moves)
    if first.stopped is not None:
        return [first]
    return [first, run(pool, "second", plain(), {}, _onward(pool, plain()))]
