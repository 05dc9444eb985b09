"""Reading a program's text, and a position or a class that stands alone."""

from fieldprograms.answers import NoClass, NoPosition, ProgramFault, ProgramTooLong
from fieldprograms.classes import CLASS_RANGES, EMPTY_CLASS, both_empty, holds
from fieldprograms.cursor import Cursor
from fieldprograms.pieces import Constant, Part
from fieldprograms.positions import BorderPosition, EndPosition
from fieldprograms.programs import MOST_PIECES

MOST_PROGRAM_BYTES = 1000
SECOND_KIND_STEP = 20
MOST_CONSTANT_BYTES = 12
MOST_DIGITS = 2
MOST_DISTANCE = 60
MOST_RANK = 40
CONSTANT_BYTES = ((32, 126),)
SINGLE_BYTES = ((33, 126),)
FIELD_DIGITS = ((49, 52),)
TURN_SIGNS = ("^", "_", "~")


def read_program(text):
    """The program's pieces; the empty program has none."""
    if len(text) > MOST_PROGRAM_BYTES:
        raise ProgramTooLong()
    cursor = Cursor(text)
    pieces = []
    if cursor.sees("0"):
        cursor.take()
    else:
        pieces = read_pieces(cursor)
    if not cursor.at_end():
        raise ProgramFault(1, cursor.place)
    return pieces


def read_second_program(text):
    """As read_program, with faults that are told from those of a first program."""
    try:
        return read_program(text)
    except ProgramFault as fault:
        raise ProgramFault(fault.kind + SECOND_KIND_STEP, fault.place) from None


def read_lone_position(text):
    """The position that is the whole text, as it's read in a program's."""
    cursor = Cursor(text)
    try:
        position = read_position(cursor)
    except ProgramFault:
        raise NoPosition() from None
    if not cursor.at_end():
        raise NoPosition()
    return position


def read_lone_class(text):
    """The class that is the whole text."""
    cursor = Cursor(text)
    try:
        ranges = read_class(cursor)
    except ProgramFault:
        raise NoClass() from None
    if not cursor.at_end():
        raise NoClass()
    return ranges


def read_class_of_runs(text):
    """The class that is the whole text and isn't empty: the empty class has no runs."""
    ranges = read_lone_class(text)
    if ranges == EMPTY_CLASS:
        raise NoClass()
    return ranges


def read_class_pair(left_text, right_text):
    """The two classes, of which at least one isn't empty."""
    left = read_lone_class(left_text)
    right = read_lone_class(right_text)
    if both_empty(left, right):
        raise NoClass()
    return (left, right)


def read_pieces(cursor):
    pieces = [read_piece(cursor)]
    while cursor.sees("&"):
        cursor.take()
        # The fault is told ahead of anything that stands here, so nothing is read first.
        if len(pieces) == MOST_PIECES:
            raise ProgramFault(5, cursor.place)
        pieces.append(read_piece(cursor))
    return pieces


def read_piece(cursor):
    if cursor.sees('"'):
        return read_constant(cursor)
    if holds(FIELD_DIGITS, cursor.peek()):
        return read_part(cursor)
    raise ProgramFault(1, cursor.place)


def read_constant(cursor):
    first = cursor.place
    cursor.take_sign('"')
    text = []
    while True:
        if not holds(CONSTANT_BYTES, cursor.peek()):
            raise ProgramFault(1, cursor.place)
        byte = cursor.take()
        if byte == ord('"'):
            if not cursor.sees('"'):
                break
            cursor.take()
        text.append(byte)
    # Asked only here, since a wrong length is told when the constant's end was found.
    if not 1 <= len(text) <= MOST_CONSTANT_BYTES:
        raise ProgramFault(2, first)
    return Constant(text)


def read_part(cursor):
    field = cursor.take() - ord("0")
    cursor.take_sign("[")
    first = read_position(cursor)
    cursor.take_sign(":")
    second = read_position(cursor)
    cursor.take_sign("]")
    return Part(field, first, second, read_turn(cursor))


def read_turn(cursor):
    """The sign behind a part; the empty text, if there's none."""
    for sign in TURN_SIGNS:
        if cursor.sees(sign):
            cursor.take()
            return sign
    return ""


def read_position(cursor):
    if cursor.sees("+") or cursor.sees("-"):
        from_right = read_direction(cursor)
        return EndPosition(from_right, read_number(cursor, 0, MOST_DISTANCE))
    return read_border(cursor)


def read_border(cursor):
    first = cursor.place
    left = read_class(cursor)
    cursor.take_sign("|")
    right = read_class(cursor)
    if both_empty(left, right):
        raise ProgramFault(4, first)
    from_right = read_direction(cursor)
    return BorderPosition(left, right, from_right, read_number(cursor, 1, MOST_RANK))


def read_direction(cursor):
    """Whether it is counted from the right."""
    if cursor.sees("-"):
        cursor.take()
        return True
    cursor.take_sign("+")
    return False


def read_class(cursor):
    if cursor.sees("'"):
        cursor.take()
        return read_single(cursor)
    for sign in CLASS_RANGES:
        if cursor.sees(sign):
            cursor.take()
            return CLASS_RANGES[sign]
    raise ProgramFault(1, cursor.place)


def read_single(cursor):
    """The class of one byte alone."""
    byte = cursor.peek()
    if not holds(SINGLE_BYTES, byte) or holds(CLASS_RANGES["N"], byte):
        raise ProgramFault(1, cursor.place)
    cursor.take()
    return ((byte, byte),)


def read_number(cursor, low, high):
    first = cursor.place
    digits = []
    while holds(CLASS_RANGES["D"], cursor.peek()):
        digits.append(cursor.take() - ord("0"))
    if len(digits) == 0:
        raise ProgramFault(1, first)
    if len(digits) > MOST_DIGITS or (len(digits) > 1 and digits[0] == 0):
        raise ProgramFault(3, first)
    number = 0
    for digit in digits:
        number = 10 * number + digit
    if not low <= number <= high:
        raise ProgramFault(3, first)
    return number
