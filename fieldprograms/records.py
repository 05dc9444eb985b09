"""Reading a record, and what is a field and a field's number."""

from fieldprograms.answers import NoField, NoFieldNumber, NoRecord
from fieldprograms.classes import holds

MOST_FIELDS = 4
MOST_FIELD_BYTES = 40
FIELD_BYTES = ((32, 126),)


def read_record(numbers):
    """The record's fields, from a list that has before each field how many bytes it has."""
    fields = split_record(numbers)
    if not 1 <= len(fields) <= MOST_FIELDS:
        raise NoRecord()
    for text in fields:
        check_field(text)
    return fields


def split_record(numbers):
    texts = []
    place = 0
    while place < len(numbers):
        begin = place + 1
        place = begin + numbers[place]
        texts.append(numbers[begin:place])
    return texts


def check_field(text):
    if len(text) > MOST_FIELD_BYTES:
        raise NoField()
    for byte in text:
        if not holds(FIELD_BYTES, byte):
            raise NoField()


def check_field_numbers(numbers):
    for number in numbers:
        if not 1 <= number <= MOST_FIELDS:
            raise NoFieldNumber()
