"""What any value is, where True is not 1 and a list is not a tuple."""


def is_number(thing):
    """Whether any value is an integer."""
    return isinstance(thing, int) and not isinstance(thing, bool)


def is_tuple(thing, many):
    """Whether any value is a tuple with so many items."""
    return isinstance(thing, tuple) and len(thing) == many


def are_numbers(thing):
    """Whether any value is a tuple of integers."""
    return isinstance(thing, tuple) and all([is_number(item) for item in thing])


def is_event(thing):
    """Whether any value is a tuple of a string and an integer."""
    return is_tuple(thing, 2) and isinstance(thing[0], str) and is_number(thing[1])


def is_spot(thing):
    """Whether any value is written like a spot, so that it may be looked up."""
    if not is_tuple(thing, 3) or not is_number(thing[0]) or not are_numbers(thing[1]):
        return False
    return isinstance(thing[2], tuple) and all([is_event(event) for event in thing[2]])
