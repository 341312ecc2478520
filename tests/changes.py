"""Any values, and values in which one part is replaced, left out or put in."""

HUGE = 10 ** 60 - 1
ANY_VALUES = [None, True, False, 0, 1, -1, HUGE, -HUGE, "", "sound", "faulty", "any", "a", "~" * 2000, "\n", (), [], {},
              [()], ([],), ({},), {"a": 1}, {(): ()}, (0,), (0, 0), ("sound",), ("sound", None), ("sound", []),
              ("sound", {}), ("sound", ""), ("sound", 0), ("sound", (), ()), ["sound", ()], ("Sound", ()), (True, ()),
              ("faulty",), ("faulty", "left"), ("faulty", "left", ()), ("faulty", "left", (), (), ()), ((), ()), ((), []),
              ([], ()), ("", ""), ("", ()), ((), ""), ({}, {}), ({}, ()), ((), {}), (((((((0,),),),),),),),
              [[[[[[[[0] * 19] * 10]]]]]] * 100, tuple([((), ())] * 9000), ("sound", tuple([()] * 19000)),
              ("sound", ((),)), ("sound", (None,)), ("sound", ((None,) * 6,)), ("sound", (((),) * 6,)),
              ("sound", (([],) * 6,)), ("sound", (({},) * 6,)), ("sound", ((0,) * 6,)), ("sound", (("",) * 6,)),
              ("faulty", "left", (), ((),)), ("faulty", "left", (), (None,)), ("faulty", "left", (), ((0,),)),
              ("faulty", "left", (), ((0, "go", 0),)), ("faulty", "left", (), ([0, "go"],)), ("faulty", None, (), ()),
              ("faulty", [], (), ()), ("faulty", "left", (0,) * 9000, ()), ("faulty", "left", (), ((0, "go"),) * 6000),
              ("faulty", "left", ((((((0,),),),),),), (((((("go",),),),),),))]
WORDS = [None, True, False, 0, 1, 2, -1, HUGE, "any", "none", "some", "first", "whole", "closed", "a", "r0", "go", "cut",
         "left", (), [], {}, (0, ())]


def variants(part):
    """What may stand in the place of a part."""
    found = list(WORDS)
    if isinstance(part, tuple):
        found += [list(part), part + (0,), part + part[-1:], part[::-1], part[1:], part[:-1], (part,)]
    if part.__class__ is int:
        found += [part + 1, part - 1, -part, str(part), (part,), [part]]
    if isinstance(part, str):
        found += [part + " ", part.upper(), part[:-1], [part], (part,)]
    return [other for other in found if repr(other) != repr(part)]


def places(thing, inside=()):
    """Where the parts of nested tuples stand."""
    yield inside
    if isinstance(thing, tuple):
        for at, part in enumerate(thing):
            yield from places(part, inside + (at,))


def part_at(thing, place):
    for at in place:
        thing = thing[at]
    return thing


def changed(thing, place, part):
    """The nested tuples with another part."""
    if not place:
        return part
    at = place[0]
    return thing[:at] + (changed(thing[at], place[1:], part),) + thing[at + 1:]


def left_out(thing, place):
    """The nested tuples without the part at a place."""
    outer = part_at(thing, place[:-1])
    return changed(thing, place[:-1], outer[:place[-1]] + outer[place[-1] + 1:])


def all_changes(thing):
    """The nested tuples with each part replaced or left out."""
    for place in places(thing):
        if place:
            yield left_out(thing, place)
        for part in variants(part_at(thing, place)):
            yield changed(thing, place, part)
