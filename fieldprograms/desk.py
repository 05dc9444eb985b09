"""The calls. Each is by itself, and answers one list of whole numbers."""

from fieldprograms.answers import OtherAnswer
from fieldprograms.programs import all_given, piece_costs
from fieldprograms.reader import read_program
from fieldprograms.records import read_record


def read(program):
    """How many pieces the program has, and its cost."""
    try:
        pieces = read_program(program)
    except OtherAnswer as other:
        return other.answer
    return [0, len(pieces), sum(piece_costs(pieces))]


def run(program, record):
    """The bytes that the program gives on the record."""
    try:
        gifts = given_on(program, record)
    except OtherAnswer as other:
        return other.answer
    answer = [0]
    for given in gifts:
        answer.extend(given.text)
    return answer


def trace(program, record):
    """Where each piece's text stands in what the program gives, and where it comes from."""
    try:
        gifts = given_on(program, record)
    except OtherAnswer as other:
        return other.answer
    answer = [0]
    begin = 0
    for given in gifts:
        end = begin + len(given.text)
        answer.extend([begin, end, given.field, given.begin, given.end])
        begin = end
    return answer


def cost(program):
    """The program's cost and each piece's."""
    try:
        pieces = read_program(program)
    except OtherAnswer as other:
        return other.answer
    costs = piece_costs(pieces)
    return [0, sum(costs)] + costs


def given_on(program, record):
    # The program is read first, since what is wrong with it comes ahead of a wrong record.
    pieces = read_program(program)
    fields = read_record(record)
    return all_given(pieces, fields)
