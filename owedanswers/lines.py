"""Lines, which carry asks out and answers back in order."""

from owedanswers.effects import fault_of, is_spotless, mark_behind
from owedanswers.errors import Amid, Closed, Starved


class Line:
    """A line with the tags of the asks whose answers are owed."""

    def __init__(self, number=0):
        self.number = number
        self.cause = None
        self._mark = "whole"
        self._tags = []
        self._begun = None

    @property
    def mark(self):
        """How far asks and answers have come."""
        return self._mark

    @property
    def is_open(self):
        """Whether the line is not closed."""
        return self._mark != "closed"

    @property
    def is_clean(self):
        """Whether the mark is whole and nothing is owed."""
        return is_spotless(self._mark, len(self._tags))

    @property
    def owed(self):
        """How many answers are owed."""
        return len(self._tags)

    def __len__(self):
        return len(self._tags)

    def __contains__(self, x):
        return x in self._tags

    def _enter(self, word, owed):
        """Makes the mark that of the line behind a row; raises what bars the row when so many answers are owed."""
        fault = fault_of(word, self._mark, owed)
        if fault == "closed":
            raise Closed(self.number)
        if fault == "amid":
            raise Amid(self._mark)
        if fault == "starved":
            raise Starved(self.number)
        self._mark = mark_behind(word, self._mark)

    def ask(self, *tags):
        """Sends whole asks with these tags."""
        self._enter("ask", self.owed)
        self._tags.extend(tags)

    def begin(self, tag):
        """Sends the first part of an ask."""
        self._enter("begin", self.owed)
        self._begun = tag

    def finish(self):
        """Sends the rest of an ask."""
        self._enter("finish", self.owed)
        self._tags.append(self._begun)
        self._begun = None

    def read(self):
        """Reads an answer; returns the tag of its ask."""
        self._enter("read", self.owed)
        return self._tags.pop(0)

    def head(self):
        """Reads the first part of an answer; returns the tag of its ask."""
        self._enter("head", self.owed)
        return self._tags[0]

    def body(self):
        """Reads the rest of an answer; returns the tag of its ask."""
        self._enter("body", self.owed)
        return self._tags.pop(0)

    def drain(self):
        """Throws away the answers that are owed; returns the tags of their asks."""
        thrown = self._tags
        self._tags = []
        self._mark = mark_behind("drain", self._mark)
        return thrown

    def close(self, cause=None):
        """Closes the line; a closed one keeps its cause."""
        if self.is_open:
            self.cause = cause
            self._mark = mark_behind("close", self._mark)
            self._tags = []

    def tags(self):
        """The tags whose answers are owed, in order."""
        return list(self._tags)

    def answers(self):
        """Reads the answers that are owed one by one; yields the tags of their asks."""
        # Where nothing is owed nothing is yielded, so that is no fault here.
        self._enter("read", 1)
        while self._tags:
            yield self._tags.pop(0)
