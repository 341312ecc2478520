"""All reports of the runs of a function, without going through the runs one by one."""

from owedanswers.effects import EMPTYING, READING, fault_of, mark_behind, owed_behind
from owedanswers.flows import way_of
from owedanswers.pools import reason_of


class Tally:
    """What runs of a function with given lengths can come to.

    A key has all that matters for the rest of a run: the spot, the rounds done of the loop around its row, the
    mark and the number of answers owed. Runs with the same key are counted together, in a bag: a dict from the
    number of answers that were thrown away to an integer with a bit for each number of answers that were read.
    """

    def __init__(self, flow, lengths):
        self._flow = flow
        self._lengths = lengths

    def _first(self):
        """The key at the beginning."""
        return (self._flow.start(), 0, "whole", 0)

    def _done(self, row, move, done, next_row):
        """The rounds done behind a move of the loop around the next row."""
        loop = self._flow.loop(next_row)
        if loop != self._flow.loop(row):
            return 0
        return done + 1 if move == "item" else done

    def _edges(self, key):
        """For each move of a key without a fault the next key, and how many answers are thrown away and read."""
        spot, done, mark, owed = key
        if self._flow.is_left(spot):
            return []
        row = spot[0]
        word = self._flow.words[row]
        edges = []
        for move in self._flow.possible(row, self._lengths, done):
            after = self._flow.after(spot, move)
            rounds = self._done(row, move, done, after[0])
            if move != "go":
                edges.append(((after, rounds, mark, owed), 0, 0))
            elif fault_of(word, mark, owed) is None:
                behind = (after, rounds, mark_behind(word, mark), owed_behind(word, owed))
                edges.append((behind, owed if word in EMPTYING else 0, 1 if word in READING else 0))
        return edges

    def _graph(self):
        """All keys that runs reach, each with its edges."""
        graph = {}
        ahead = [self._first()]
        while ahead:
            key = ahead.pop()
            if key not in graph:
                graph[key] = self._edges(key)
                ahead.extend([edge[0] for edge in graph[key]])
        return graph

    def _ordered(self, graph):
        """The keys in an order in which each stands before those behind it."""
        waiting = {key: 0 for key in graph}
        for edges in list(graph.values()):
            for edge in edges:
                waiting[edge[0]] = waiting[edge[0]] + 1
        order = []
        ready = [self._first()]
        while ready:
            key = ready.pop()
            order.append(key)
            for edge in graph[key]:
                waiting[edge[0]] = waiting[edge[0]] - 1
                if waiting[edge[0]] == 0:
                    ready.append(edge[0])
        return order

    def _ends(self):
        """For each key at which the function is left a pair of it and its bag."""
        graph = self._graph()
        bags = {self._first(): {0: 1}}
        ends = []
        for key in self._ordered(graph):
            bag = bags.pop(key)
            if self._flow.is_left(key[0]):
                ends.append((key, bag))
            for after, thrown, taken in graph[key]:
                behind = bags.setdefault(after, {})
                for before, bits in bag.items():
                    behind[before + thrown] = behind.get(before + thrown, 0) | bits << taken
        return ends

    def reports(self):
        """The different reports, ascending."""
        bags = {}
        for key, bag in self._ends():
            spot, _, _, owed = key
            for thrown, bits in bag.items():
                place = (reason_of(way_of(spot)), owed + thrown)
                bags[place] = bags.get(place, 0) | bits
        found = []
        for place, bits in bags.items():
            reason, unread = place
            taken = [many for many in range(bits.bit_length()) if bits >> many & 1]
            found.extend([(reason, unread + many, many) for many in taken])
        return sorted(found)
