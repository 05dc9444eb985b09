"""Programs, as lists of pieces: what they cost, name and give, their order, and how they are joined and written."""

from fieldprograms.answers import PieceGivesNothing, TooManyPieces
from fieldprograms.records import MOST_FIELDS
from fieldprograms.signs import as_bytes

MOST_PIECES = 6


def piece_costs(pieces):
    return [piece.cost() for piece in pieces]


def order_key(pieces):
    """Of two programs the one with the smaller key is ahead: lists are compared as programs and texts are."""
    piece_keys = [[piece.cost(), piece.written()] for piece in pieces]
    return [sum(piece_costs(pieces)), len(pieces), piece_keys]


def joined(first, second):
    if len(first) + len(second) > MOST_PIECES:
        raise TooManyPieces()
    return first + second


def program_written(pieces):
    if len(pieces) == 0:
        return as_bytes("0")
    written = pieces[0].written()
    for piece in pieces[1:]:
        written = written + as_bytes("&") + piece.written()
    return written


def fields_of(pieces):
    """The fields that the parts name, rising, each once."""
    named = []
    for piece in pieces:
        named.extend(piece.fields_named())
    return [field for field in range(1, MOST_FIELDS + 1) if field in named]


def all_given(pieces, fields):
    """What each piece gives."""
    gifts = []
    for piece in pieces:
        given = piece.give(fields)
        if given is None:
            raise PieceGivesNothing(len(gifts))
        gifts.append(given)
    return gifts
