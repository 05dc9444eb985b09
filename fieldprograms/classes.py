"""Classes of bytes, and the places of a text at which they begin, end and meet.

A class is a tuple of ranges, each its lowest and its highest byte; the empty class has no range.
"""

from fieldprograms.signs import as_bytes

CLASS_RANGES = {
    "D": ((48, 57),),
    "L": ((97, 122),),
    "U": ((65, 90),),
    "A": ((65, 90), (97, 122)),
    "N": ((48, 57), (65, 90), (97, 122)),
    "B": ((32, 32),),
    ".": (),
}

EMPTY_CLASS = ()


def both_empty(left, right):
    return left == EMPTY_CLASS and right == EMPTY_CLASS


def class_written(ranges):
    for sign in CLASS_RANGES:
        if CLASS_RANGES[sign] == ranges:
            return as_bytes(sign)
    # No sign tells it, so it is the class of one byte alone.
    return as_bytes("'") + [ranges[0][0]]


def holds(ranges, byte):
    for low_high in ranges:
        if low_high[0] <= byte <= low_high[1]:
            return True
    return False


def holds_before(ranges, text, place):
    return place > 0 and holds(ranges, text[place - 1])


def holds_behind(ranges, text, place):
    return place < len(text) and holds(ranges, text[place])


def begins(ranges, text, place):
    if ranges == EMPTY_CLASS:
        return True
    return holds_behind(ranges, text, place) and not holds_before(ranges, text, place)


def ends(ranges, text, place):
    if ranges == EMPTY_CLASS:
        return True
    return holds_before(ranges, text, place) and not holds_behind(ranges, text, place)


def border_places(left, right, text):
    """All borders of the two classes, from left to right."""
    return [place for place in range(len(text) + 1) if ends(left, text, place) and begins(right, text, place)]


def run_places(ranges, text):
    """Where each run of a class that isn't empty begins and ends, from left to right."""
    # Of such a class every place at which it begins has its end as the next one, so no pairs have to be sought.
    return [place for place in range(len(text) + 1) if begins(ranges, text, place) or ends(ranges, text, place)]
