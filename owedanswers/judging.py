"""Verdicts: whether a function is sound for a door, with a certificate."""

from owedanswers.charts import Chart
from owedanswers.flows import Flow
from owedanswers.growing import entries_of, owing_ways
from owedanswers.hunts import Hunt
from owedanswers.tables import Table


class Verdict:
    """Whether a function is sound for a door, and the certificate for that."""

    def __init__(self, certificate, moves):
        self.certificate = certificate
        self._moves = moves

    def __bool__(self):
        return bool(self.certificate[0] == "sound")

    def __len__(self):
        return len(self._moves)


def judge(function, door):
    """The verdict on a function and a door."""
    chart = Chart(Flow(function))
    entries = entries_of(chart)
    if entries is not None and not owing_ways(chart, entries, door):
        return Verdict(("sound", Table(function, entries).paper()), ())
    kind, lengths, moves = Hunt(chart, door).found()
    return Verdict(("faulty", kind, lengths, moves), moves)
