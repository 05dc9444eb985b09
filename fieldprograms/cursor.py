"""A text that is read from the left."""

from fieldprograms.answers import ProgramFault

NO_BYTE = -1


class Cursor:
    """Stands at a place of the text, up to which it has been read."""

    def __init__(self, text):
        self.text = text
        self.place = 0

    def at_end(self):
        return self.place == len(self.text)

    def peek(self):
        """The byte behind the place; at the end a number that is in no class and is no sign."""
        if self.at_end():
            return NO_BYTE
        return self.text[self.place]

    def sees(self, sign):
        return self.peek() == ord(sign)

    def take(self):
        byte = self.peek()
        self.place += 1
        return byte

    def take_sign(self, sign):
        if not self.sees(sign):
            raise ProgramFault(1, self.place)
        self.take()
