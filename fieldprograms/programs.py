"""What a program costs, and what its pieces give on a record."""

from fieldprograms.answers import PieceGivesNothing


def piece_costs(pieces):
    return [piece.cost() for piece in pieces]


def all_given(pieces, fields):
    """What each piece gives."""
    gifts = []
    for piece in pieces:
        given = piece.give(fields)
        if given is None:
            raise PieceGivesNothing(len(gifts))
        gifts.append(given)
    return gifts
