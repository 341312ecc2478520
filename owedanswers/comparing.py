"""Whether two functions come to the same."""

from owedanswers.runs import reports


def parted(one, other, lengths):
    """The least report that only one of two functions has for some lengths, and which one; or None."""
    ones = {report: True for report in reports(one, lengths)}
    others = {report: True for report in reports(other, lengths)}
    only = [(report, 0) for report in ones if report not in others]
    only.extend([(report, 1) for report in others if report not in ones])
    return min(only) if only else None


def _sizes(many, most):
    """All tuples of so many lengths whose sum is at most a number."""
    found = [()]
    for _ in range(many):
        found = [size + (length,) for size in found for length in range(most - sum(size) + 1)]
    return found


def first_parted(one, other, most):
    """The least lengths with a sum up to a number for which two functions are parted, and by what; or None."""
    lists = sorted(set(one.lists + other.lists))
    for size in sorted(_sizes(len(lists), most), key=lambda lengths: (sum(lengths), lengths)):
        found = parted(one, other, dict(zip(lists, size)))
        if found is not None:
            return (size, found[0], found[1])
    return None
