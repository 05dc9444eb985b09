"""Pieces: what they give on a record, what they cost, and how they are written."""

from fieldprograms.classes import CLASS_RANGES, holds
from fieldprograms.signs import as_bytes

LETTER_STEP = 32


def as_capital(byte):
    if holds(CLASS_RANGES["L"], byte):
        return byte - LETTER_STEP
    return byte


def as_small(byte):
    if holds(CLASS_RANGES["U"], byte):
        return byte + LETTER_STEP
    return byte


def turned(text, turn):
    """The text as the sign turn, one of ^ _ ~ or none, has it; it isn't empty."""
    if turn == "^":
        return [as_capital(byte) for byte in text]
    if turn == "_":
        return [as_small(byte) for byte in text]
    if turn == "~":
        return [as_capital(text[0])] + [as_small(byte) for byte in text[1:]]
    return text


class Given:
    """What a piece gave, and from where: the field and two places in it, all 0 for a constant."""

    def __init__(self, text, field, begin, end):
        self.text = text
        self.field = field
        self.begin = begin
        self.end = end


class Constant:
    """The same bytes on every record."""

    def __init__(self, text):
        self.text = text

    def give(self, fields):
        return Given(self.text, 0, 0, 0)

    def fields_named(self):
        return []

    def with_fields(self, numbers):
        return self

    def cost(self):
        return 3 + 2 * len(self.text)

    def written(self):
        inner = []
        for byte in self.text:
            # A quote alone would end the constant, so one among its bytes is written twice.
            if byte == ord('"'):
                inner.append(byte)
            inner.append(byte)
        return as_bytes('"') + inner + as_bytes('"')


class Part:
    """The bytes between two positions of a field."""

    def __init__(self, field, first, second, turn):
        self.field = field
        self.first = first
        self.second = second
        self.turn = turn

    def give(self, fields):
        """None, if it gives nothing."""
        if self.field > len(fields):
            return None
        text = fields[self.field - 1]
        begin = self.first.place_in(text)
        end = self.second.place_in(text)
        if begin is None or end is None or begin >= end:
            return None
        return Given(turned(text[begin:end], self.turn), self.field, begin, end)

    def fields_named(self):
        return [self.field]

    def with_fields(self, numbers):
        """The piece with the first of the numbers in the place of the field 1, the second of 2, and so on."""
        return Part(numbers[self.field - 1], self.first, self.second, self.turn)

    def cost(self):
        total = 2 + self.first.cost() + self.second.cost()
        if self.turn != "":
            total += 3
        return total

    def written(self):
        begin = as_bytes(str(self.field) + "[") + self.first.written()
        end = as_bytes(":") + self.second.written() + as_bytes("]" + self.turn)
        return begin + end
