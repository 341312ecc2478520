"""What a row does to a line, of which only the mark and the number of answers owed matter."""

MARKS = ("whole", "out", "in", "both", "closed")
NEEDY = ("ask", "begin", "finish", "read", "head", "body")
HUNGRY = ("read", "head")
SENDING = ("ask", "finish")
READING = ("read", "body")
EMPTYING = ("drain", "close")
BEHIND = {
    ("ask", "whole"): "whole",
    ("ask", "in"): "in",
    ("begin", "whole"): "out",
    ("begin", "in"): "both",
    ("finish", "out"): "whole",
    ("finish", "both"): "in",
    ("read", "whole"): "whole",
    ("read", "out"): "out",
    ("head", "whole"): "in",
    ("head", "out"): "both",
    ("body", "in"): "whole",
    ("body", "both"): "out",
    ("drain", "in"): "whole",
    ("drain", "both"): "out",
    ("close", "whole"): "closed",
    ("close", "out"): "closed",
    ("close", "in"): "closed",
    ("close", "both"): "closed",
}


def is_spotless(mark, owed):
    """Whether a line is clean."""
    return mark == "whole" and owed == 0


def fault_of(word, mark, owed):
    """The inner fault that the move `go` of a row meets, or None."""
    if word == "retry":
        return None if mark == "closed" or is_spotless(mark, owed) else "stale"
    if word not in NEEDY:
        return None
    if mark == "closed":
        return "closed"
    if (word, mark) not in BEHIND:
        return "amid"
    if word in HUNGRY and owed < 1:
        return "starved"
    return None


def mark_behind(word, mark):
    """The mark behind a row that meets no fault."""
    return BEHIND.get((word, mark), mark)


def owed_behind(word, owed):
    """The number of answers owed behind a row that meets no fault."""
    if word in EMPTYING:
        return 0
    if word in SENDING:
        return owed + 1
    return owed - 1 if word in READING else owed
