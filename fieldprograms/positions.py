"""Positions: where they stand in a text, what they cost, and how they are written."""

from fieldprograms.classes import EMPTY_CLASS, border_places, class_written
from fieldprograms.signs import as_bytes


def count_written(from_right, count):
    direction = "-" if from_right else "+"
    return as_bytes(direction + str(count))


class EndPosition:
    """+k and -k: so many bytes away from an end of the text."""

    def __init__(self, from_right, distance):
        self.from_right = from_right
        self.distance = distance

    def place_in(self, text):
        """None, if it stands nowhere."""
        if self.distance > len(text):
            return None
        if self.from_right:
            return len(text) - self.distance
        return self.distance

    def cost(self):
        if self.distance == 0:
            return 1
        return 5

    def written(self):
        return count_written(self.from_right, self.distance)


class BorderPosition:
    """l|r+c and l|r-c: the c-th border of two classes."""

    def __init__(self, left, right, from_right, rank):
        self.left = left
        self.right = right
        self.from_right = from_right
        self.rank = rank

    def place_in(self, text):
        """None, if it stands nowhere."""
        places = border_places(self.left, self.right, text)
        if self.rank > len(places):
            return None
        if self.from_right:
            return places[len(places) - self.rank]
        return places[self.rank - 1]

    def cost(self):
        total = self.rank
        if self.left != EMPTY_CLASS:
            total += 2
        if self.right != EMPTY_CLASS:
            total += 2
        if self.from_right:
            total += 1
        return total

    def written(self):
        classes = class_written(self.left) + as_bytes("|") + class_written(self.right)
        return classes + count_written(self.from_right, self.rank)
