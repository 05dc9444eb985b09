"""The calls. Each is by itself, and answers one list of whole numbers."""

from fieldprograms.answers import OtherAnswer
from fieldprograms.classes import border_places, run_places
from fieldprograms.programs import all_given, fields_of, joined, order_key, piece_costs, program_written
from fieldprograms.reader import read_class_of_runs, read_class_pair, read_lone_position
from fieldprograms.reader import read_program, read_second_program
from fieldprograms.records import check_field, check_field_numbers, read_record


def read(program):
    """How many pieces the program has, and its cost."""
    try:
        pieces = read_program(program)
    except OtherAnswer as other:
        return other.answer
    return [0, len(pieces), sum(piece_costs(pieces))]


def run(program, record):
    """The bytes that the program gives on the record."""
    try:
        gifts = given_on(program, record)
    except OtherAnswer as other:
        return other.answer
    answer = [0]
    for given in gifts:
        answer.extend(given.text)
    return answer


def trace(program, record):
    """Where each piece's text stands in what the program gives, and where it comes from."""
    try:
        gifts = given_on(program, record)
    except OtherAnswer as other:
        return other.answer
    answer = [0]
    begin = 0
    for given in gifts:
        end = begin + len(given.text)
        answer.extend([begin, end, given.field, given.begin, given.end])
        begin = end
    return answer


def cost(program):
    """The program's cost and each piece's."""
    try:
        pieces = read_program(program)
    except OtherAnswer as other:
        return other.answer
    costs = piece_costs(pieces)
    return [0, sum(costs)] + costs


def compare(p, q):
    """Which of the two programs is ahead: 1 the first, 2 the second, 0 if they are the same."""
    try:
        first = read_program(p)
        second = read_second_program(q)
    except OtherAnswer as other:
        return other.answer
    if order_key(first) < order_key(second):
        return [0, 1]
    if order_key(second) < order_key(first):
        return [0, 2]
    return [0, 0]


def join(p, q):
    """The first program's pieces and then the second's, written."""
    try:
        first = read_program(p)
        second = read_second_program(q)
        pieces = joined(first, second)
    except OtherAnswer as other:
        return other.answer
    return [0] + program_written(pieces)


def place(position, t):
    """Where the position stands in the text; 1 if nowhere."""
    try:
        found = read_lone_position(position)
        check_field(t)
    except OtherAnswer as other:
        return other.answer
    where = found.place_in(t)
    if where is None:
        return [1]
    return [0, where]


def borders(l, r, t):
    """All borders of the two classes in the text."""
    try:
        classes = read_class_pair(l, r)
        check_field(t)
    except OtherAnswer as other:
        return other.answer
    return [0] + border_places(classes[0], classes[1], t)


def runs(class_text, t):
    """Where each run of the class in the text begins and ends."""
    try:
        ranges = read_class_of_runs(class_text)
        check_field(t)
    except OtherAnswer as other:
        return other.answer
    return [0] + run_places(ranges, t)


def fields(program):
    """The fields that the program's parts name."""
    try:
        pieces = read_program(program)
    except OtherAnswer as other:
        return other.answer
    return [0] + fields_of(pieces)


def moved(a, b, c, d, program):
    """The program with the four numbers in the places of its fields 1 to 4, written."""
    numbers = [a, b, c, d]
    try:
        check_field_numbers(numbers)
        pieces = read_program(program)
    except OtherAnswer as other:
        return other.answer
    return [0] + program_written([piece.with_fields(numbers) for piece in pieces])


def given_on(program, record):
    # The program is read first, since what is wrong with it comes ahead of a wrong record.
    pieces = read_program(program)
    texts = read_record(record)
    return all_given(pieces, texts)
