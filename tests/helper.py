"""What the tests share: texts and records from letters, and how a call is asked."""

import re
import unittest

EXAMPLE = '1[B|.+1:-0]^&", "&1[+0:+1]&"."'

SIX = "&".join(['"a"'] * 6)
SEVEN = "&".join(['"a"'] * 7)
THOUSAND_BYTES = '"' + "a" * 998 + '"'
TOO_LONG = '"' + "a" * 999 + '"'

# Texts with a fault of each kind, and what is answered to a first program that is so.
FAULTS = (
    ("", [1, 0]), ("0&", [1, 1]), ("1[+0:-0", [1, 7]), ('"a"&', [1, 4]), ("5[+0:-0]", [1, 0]), ([200], [1, 0]),
    ('""', [2, 0]), ('"a"&"abcdefghijklm"', [2, 4]), (THOUSAND_BYTES, [2, 0]),
    ("1[+61:-0]", [3, 3]), ("1[D|L+0:-0]", [3, 6]), ("1[+0:-007]", [3, 6]),
    ("1[.|.+1:-0]", [4, 2]), ("1[+0:.|.-9]", [4, 5]),
    (SEVEN, [5, 24]), (SIX + "&", [5, 24]),
)

# What is a class and a position, as patterns have it.
CLASS = r"(?:[DLUANB.]|'[!-/:-@\[-`{-~])"
DISTANCE = r"(?:[1-5]?[0-9]|60)"
RANK = r"(?:[1-9]|[1-3][0-9]|40)"
BORDER = rf"(?!\.\|\.){CLASS}\|{CLASS}[+-]{RANK}"
POSITION = rf"(?:[+-]{DISTANCE}|{BORDER})"

CLASS_PATTERNS = {
    "D": "[0-9]", "L": "[a-z]", "U": "[A-Z]", "A": "[A-Za-z]", "N": "[0-9A-Za-z]", "B": "[ ]",
    "'-": "[-]", "'\"": "[\"]", "''": "[']", "'|": "[|]", "'.": "[.]", "'~": "[~]", "'!": "[!]",
}
SIGNS = (*CLASS_PATTERNS, ".")
CLASS_PAIRS = [(left, right) for left in SIGNS for right in SIGNS if (left, right) != (".", ".")]
FIELDS = ("", " ", "a", "7", "Ada Lovelace", "a1-b", "--a--B--", " x  Y1 22 ", "'|\"'.|\"", "a.b.c.", "!~!",
          "ABCabc123ABC abc-123", "x" * 40, "-x" * 20)

# The signs that have a class of their own, the bytes that have none, and every class that isn't empty.
SINGLES = [chr(byte) for byte in range(33, 127) if not chr(byte).isalnum()]
NO_SINGLES = [byte for byte in range(256) if chr(byte) not in SINGLES]
FILLED_CLASSES = list("DLUANB") + ["'" + sign for sign in SINGLES]

# Texts that are not just one class.
NO_CLASSES = ("", "x", "C", "d", "0", "1", " ", "-", "|", "\"", "'", "+0", "A|L", "A|L+1", "\x00", "\xff",
              "DD", "AN", "A ", " A", "A.", "..", ".A", "A'", "'-'", "'--", "'- ", "'-.", "'''", "''.", "A|", "|A",
              "B\n", "D" * 1000, "D" * 10000, "'" * 10000, "." * 1001)

# Texts that are no field: too long, or with a byte that no field has.
NO_FIELDS = ("x" * 41, "x" * 10000, "\x1f", "\x7f", "a\x1fb", "a\x7f", "\x00", "\xff", " " * 39 + "\n", [128] * 41)


def border_places(left, right, field):
    """The borders of two classes as patterns have them; a second way to find them."""
    ends = "" if left == "." else f"(?<={CLASS_PATTERNS[left]})(?!{CLASS_PATTERNS[left]})"
    begins = "" if right == "." else f"(?<!{CLASS_PATTERNS[right]})(?={CLASS_PATTERNS[right]})"
    return [found.start() for found in re.finditer(ends + begins, field)]


def near_texts(letters):
    """Texts with one byte more, less or another, and the text's beginnings and ends."""
    for place in range(len(letters) + 1):
        for sign in "\x00\t !\"&'+-./0123456:[]^_`|~DLUANBCax\x7f\x80\xff":
            yield letters[:place] + sign + letters[place:]
            yield letters[:place] + sign + letters[place + 1:]
        yield letters[:place]
        yield letters[place:]
        yield letters[:place] + letters[place + 1:]


def as_second(fault):
    """What is answered, if a second program has the fault."""
    return [fault[0] + 20, fault[1]]


def text(letters):
    return list(letters.encode("latin-1"))


def record(*fields):
    """A record from fields that are told by letters, or by lists of bytes."""
    numbers = []
    for field in fields:
        content = text(field) if isinstance(field, str) else field
        numbers.append(len(content))
        numbers.extend(content)
    return numbers


class Unchanging(list):
    """A list that fails as soon as it is changed, even if only for a while."""

    def refuse(self, *args, **kwargs):
        raise AssertionError("what was handed in is changed")

    append = clear = extend = insert = pop = remove = reverse = sort = refuse
    __setitem__ = __delitem__ = __iadd__ = __imul__ = refuse


def copied(arguments, kind):
    """The arguments with each list made anew, as a list of this kind; numbers stay."""
    return [kind(argument) if isinstance(argument, list) else argument for argument in arguments]


class CallCase(unittest.TestCase):
    def ask(self, call, *arguments):
        """The answer; on the way, what is promised of every call is checked."""
        answer = call(*copied(arguments, Unchanging))
        self.assertIs(type(answer), list)
        for number in answer:
            self.assertIs(type(number), int)
        first = list(answer)
        # An answer is its asker's own: what is done to it is seen neither in a later one nor in what was handed in.
        answer.append(-99)
        again = copied(arguments, list)
        answer = call(*again)
        self.assertEqual(answer, first)
        answer.append(-99)
        self.assertEqual(again, list(arguments))
        return first

    def assert_answer(self, expected, call, *arguments):
        """arguments: texts told by letters, or lists and numbers as the call takes them."""
        numbers = [text(argument) if isinstance(argument, str) else argument for argument in arguments]
        with self.subTest(arguments=arguments):
            self.assertEqual(self.ask(call, *numbers), expected)
