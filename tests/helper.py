"""What the tests share: texts and records from letters, and how a call is asked."""

import unittest

EXAMPLE = '1[B|.+1:-0]^&", "&1[+0:+1]&"."'


def text(letters):
    return list(letters.encode("latin-1"))


def record(*fields):
    """A record from fields that are told by letters, or by lists of bytes."""
    numbers = []
    for field in fields:
        content = text(field) if isinstance(field, str) else field
        numbers.append(len(content))
        numbers.extend(content)
    return numbers


class Unchanging(list):
    """A list that fails as soon as it is changed, even if only for a while."""

    def refuse(self, *args, **kwargs):
        raise AssertionError("what was handed in is changed")

    append = clear = extend = insert = pop = remove = reverse = sort = refuse
    __setitem__ = __delitem__ = __iadd__ = __imul__ = refuse


class CallCase(unittest.TestCase):
    def ask(self, call, *arguments):
        """The answer; on the way, what is promised of every call is checked."""
        before = [list(argument) for argument in arguments]
        answer = call(*[Unchanging(argument) for argument in arguments])
        self.assertIs(type(answer), list)
        for number in answer:
            self.assertIs(type(number), int)
        first = list(answer)
        # An answer is its asker's own: what is done to it must not be seen in a later one.
        answer.append(-99)
        again = [list(argument) for argument in arguments]
        self.assertEqual(call(*again), first)
        self.assertEqual(again, before)
        return first

    def assert_answer(self, expected, call, program, *records):
        arguments = [text(program) if isinstance(program, str) else program, *records]
        with self.subTest(program=program, records=records):
            self.assertEqual(self.ask(call, *arguments), expected)
