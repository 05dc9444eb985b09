"""Promise 6: join."""

import unittest

from fieldprograms.desk import compare, cost, join, read, run
from tests.helper import EXAMPLE, FAULTS, FILLED_CLASSES, SEVEN, SIX, TOO_LONG, CallCase, as_second, record, text


def constants(count, sign="a"):
    return "&".join([f'"{sign}"'] * count)


class JoinCase(CallCase):
    def assert_joined(self, expected, p, q):
        self.assert_answer([0] + text(expected), join, p, q)

    def assert_written(self, program):
        """The program is written as it was read, alone and at either side of another piece."""
        self.assert_joined(program, program, "0")
        self.assert_joined(program, "0", program)
        self.assert_joined(f'{program}&"."', program, '"."')
        self.assert_joined(f'"."&{program}', '"."', program)


class Examples(JoinCase):
    def test_the_example(self):
        self.assert_joined('1[+0:+1]&"."', "1[+0:+1]", '"."')


class Joined(JoinCase):
    def test_the_first_ones_pieces_come_first(self):
        self.assert_joined('"a"&"b"', '"a"', '"b"')
        self.assert_joined('"b"&"a"', '"b"', '"a"')
        self.assert_joined('"a"&1[+0:-0]&2[+0:-0]^&"b"&"c"', '"a"&1[+0:-0]', '2[+0:-0]^&"b"&"c"')

    def test_the_same_program_twice(self):
        self.assert_joined('"a"&"a"', '"a"', '"a"')
        program = text('"a"&1[+0:-0]')
        self.assertEqual(join(program, program), [0] + text('"a"&1[+0:-0]&"a"&1[+0:-0]'))
        self.assertEqual(program, text('"a"&1[+0:-0]'))

    def test_the_empty_program(self):
        self.assert_joined("0", "0", "0")
        for program in ('"a"', '"0"', "1[+0:-0]", EXAMPLE, SIX):
            self.assert_joined(program, program, "0")
            self.assert_joined(program, "0", program)

    def test_up_to_six_pieces(self):
        for count in range(1, 6):
            for other in range(1, 7 - count):
                joined = constants(count) + "&" + constants(other, "b")
                self.assert_joined(joined, constants(count), constants(other, "b"))

    def test_more_than_six_pieces(self):
        for count in range(1, 7):
            for other in range(7 - count, 7):
                self.assert_answer([-3], join, constants(count), constants(other, "b"))

    def test_what_looks_like_an_and_in_a_constant_or_class(self):
        self.assert_joined('"&&&&&&&"&"&"', '"&&&&&&&"', '"&"')
        self.assert_joined("1['&|'&+1:-0]&" + constants(5), "1['&|'&+1:-0]", constants(5))


class Written(JoinCase):
    def test_bytes_of_constants(self):
        for byte in range(32, 127):
            sign = '""' if byte == 34 else chr(byte)
            self.assert_written(f'"{sign}"')
            self.assert_written(f'"a{sign}b"')

    def test_quotes_are_written_twice(self):
        for constant in ('""""', '""""""', '"""a"', '"a"""', '"a""b"', '"a""""b"', '"' + '""' * 12 + '"'):
            self.assert_written(constant)
        self.assert_joined('""""&""""', '""""', '""""')

    def test_lengths_of_constants(self):
        for length in range(1, 13):
            self.assert_written('"' + "x" * length + '"')

    def test_fields_and_signs_behind_parts(self):
        for field in "1234":
            for turn in ("", "^", "_", "~"):
                self.assert_written(f"{field}[+0:-0]{turn}")

    def test_distances(self):
        for distance in range(61):
            self.assert_written(f"1[+{distance}:-{distance}]")
            self.assert_written(f"1[-{distance}:+{distance}]")

    def test_ranks(self):
        for rank in range(1, 41):
            self.assert_written(f"1[D|.+{rank}:.|L-{rank}]")
            self.assert_written(f"1[U|B-{rank}:A|N+{rank}]")

    def test_classes(self):
        for sign in FILLED_CLASSES:
            self.assert_written(f"1[{sign}|.+1:.|{sign}-1]")
            self.assert_written(f"1[.|{sign}+1:{sign}|.-1]")
            self.assert_written(f"1[{sign}|{sign}+1:-0]")
            self.assert_written(f"1[{sign}|A+1:D|{sign}+1]^")

    def test_every_pair_of_named_classes(self):
        for left in "DLUANB.":
            for right in "DLUANB.":
                if left + right != "..":
                    self.assert_written(f"1[{left}|{right}+1:-0]")

    def test_all_four_sorts_of_positions_at_either_side(self):
        sorts = ("+0", "+12", "-0", "-7", "D|L+3", "'-|.+40", ".|'\"-1", "B|''-10")
        for first in sorts:
            for second in sorts:
                self.assert_written(f"3[{first}:{second}]_")

    def test_the_longest_program(self):
        constant = '"' + '""' * 12 + '"'
        self.assert_joined("&".join([constant] * 6), "&".join([constant] * 3), "&".join([constant] * 3))


class ReadAgain(JoinCase):
    def test_as_the_same_pieces(self):
        pairs = ((EXAMPLE, "2['||'--12:-0]~"), ('"a""b"&4[.|B-12:-7]_', EXAMPLE), ('""""', "1[+10:''|'\"+9]^"),
                 ("0", EXAMPLE), (EXAMPLE, "0"), ("0", "0"))
        for p, q in pairs:
            joined = self.ask(join, text(p), text(q))[1:]
            costs = cost(text(p))[2:] + cost(text(q))[2:]
            self.assertEqual(read(joined), [0, len(costs), sum(costs)])
            self.assertEqual(cost(joined)[2:], costs)
            together = text("&".join([program for program in (p, q) if program != "0"]) or "0")
            self.assertEqual(compare(joined, together), [0, 0])

    def test_it_gives_the_two_texts_one_behind_the_other(self):
        fields = record("Ada Lovelace", 'say "x"', "a-b-c")
        for p in (EXAMPLE, '"a""b"&2[\'"|L+1:L|\'"+1]', "3['-|.-1:-0]^"):
            for q in ('" ""/"', "1[.|U-1:L|.-1]_", "0"):
                joined = join(text(p), text(q))[1:]
                self.assertEqual(run(joined, fields)[1:], run(text(p), fields)[1:] + run(text(q), fields)[1:])


class FaultsAndRefusals(JoinCase):
    def test_of_the_first(self):
        for program, fault in FAULTS:
            for other in ('"a"', "0", SIX):
                self.assert_answer(fault, join, program, other)

    def test_of_the_second(self):
        # With six pieces ahead of it: a fault comes ahead of -3.
        for program, fault in FAULTS:
            for other in ('"a"', "0", SIX):
                self.assert_answer(as_second(fault), join, other, program)
        self.assert_answer([22, 4], join, SIX, '"a"&""')

    def test_of_both(self):
        for program, fault in FAULTS:
            for other, ignored in FAULTS:
                self.assert_answer(fault, join, program, other)

    def test_seven_pieces_in_one_of_them(self):
        self.assert_answer([5, 24], join, SEVEN, "0")
        self.assert_answer([25, 24], join, "0", SEVEN)
        self.assert_answer([5, 24], join, SEVEN, SEVEN)

    def test_too_long(self):
        for long in (TOO_LONG, "x" * 1001, "0" * 1001, [255] * 10000):
            for other in ('"a"', "0", SIX):
                self.assert_answer([-5], join, long, other)
                self.assert_answer([-5], join, other, long)
            self.assert_answer([-5], join, long, long)

    def test_too_long_and_a_fault(self):
        for program, fault in FAULTS:
            self.assert_answer(fault, join, program, TOO_LONG)
            self.assert_answer([-5], join, TOO_LONG, program)


class NothingKept(JoinCase):
    def test_calls_between_do_not_matter(self):
        for other in (("0", "0"), ('""', "0"), ("0", '""'), (TOO_LONG, "0"), ('"b"', '"a"'), (SIX, SIX), ("", "")):
            self.ask(join, text(other[0]), text(other[1]))
            self.assert_joined('1[+0:+1]&"."', "1[+0:+1]", '"."')

    def test_the_texts_are_as_they_were(self):
        p, q = text(EXAMPLE), text('"a""b"')
        join(p, q)
        self.assertEqual((p, q), (text(EXAMPLE), text('"a""b"')))

    def test_an_answer_is_not_the_text_that_was_handed_in(self):
        program = text('"a"')
        join(program, text("0")).append(7)
        join(text("0"), program).append(7)
        self.assertEqual(program, text('"a"'))


if __name__ == "__main__":
    unittest.main()
