"""The answers that come in the place of what a call tells."""


class OtherAnswer(Exception):
    """Bears the whole answer, so that every call hands it on in the same way."""

    def __init__(self, answer):
        self.answer = answer


class ProgramTooLong(OtherAnswer):
    """A program's text has more bytes than may be read."""

    def __init__(self):
        OtherAnswer.__init__(self, [-5])


class ProgramFault(OtherAnswer):
    """A text isn't a program text."""

    def __init__(self, kind, place):
        OtherAnswer.__init__(self, [kind, place])
        self.kind = kind
        self.place = place


class TooManyPieces(OtherAnswer):
    """Two programs have together more pieces than one may have."""

    def __init__(self):
        OtherAnswer.__init__(self, [-3])


class NoPosition(OtherAnswer):
    """A text isn't just one position."""

    def __init__(self):
        OtherAnswer.__init__(self, [-4])


class NoClass(OtherAnswer):
    """A text isn't just one class, or no class but the empty one is told."""

    def __init__(self):
        OtherAnswer.__init__(self, [-4])


class NoField(OtherAnswer):
    """A text is no field."""

    def __init__(self):
        OtherAnswer.__init__(self, [-1])


class NoRecord(OtherAnswer):
    """A record has no fields or too many."""

    def __init__(self):
        OtherAnswer.__init__(self, [-1])


class NoFieldNumber(OtherAnswer):
    """A number is no field's number."""

    def __init__(self):
        OtherAnswer.__init__(self, [-2])


class PieceGivesNothing(OtherAnswer):
    """A program gives nothing, because the piece of this number gives nothing."""

    def __init__(self, number):
        OtherAnswer.__init__(self, [1, number])
