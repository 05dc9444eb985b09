"""Promise 11: moved."""

import itertools
import unittest

from fieldprograms.desk import compare, cost, fields, join, moved, read, run
from tests.helper import EXAMPLE, FAULTS, FILLED_CLASSES, SEVEN, SIX, THOUSAND_BYTES, TOO_LONG, CallCase, record, text

AS_IT_IS = (1, 2, 3, 4)
ALL_NUMBERS = list(itertools.product((1, 2, 3, 4), repeat=4))
ALL_FOUR = "1[+0:-0]&2[+0:-0]&3[+0:-0]&4[+0:-0]"
LARGEST = 10 ** 18
NO_NUMBERS = (0, 5, 6, 10, 12, 44, 49, 50, 51, 52, 256, 257, -1, -2, -3, -4, LARGEST, -LARGEST, LARGEST - 1,
              2 ** 32 + 1, 1 - 2 ** 32)


class MovedCase(CallCase):
    def assert_moved(self, expected, numbers, program):
        self.assert_answer([0] + text(expected), moved, *numbers, program)

    def assert_written(self, program):
        """The program, whose parts are of the field 1, is written with no change but the fields."""
        self.assert_moved(program, AS_IT_IS, program)
        self.assert_moved("4" + program[1:], (4, 1, 1, 1), program)

    def assert_untouched(self, *programs):
        """Programs without parts are written as they are, whatever the numbers."""
        for program in programs:
            for numbers in (AS_IT_IS, (4, 3, 2, 1), (2, 2, 2, 2), (3, 1, 4, 1)):
                self.assert_moved(program, numbers, program)


class Examples(MovedCase):
    def test_the_example(self):
        self.assert_moved("2[+0:-0]", (2, 1, 3, 4), "1[+0:-0]")


class Fields(MovedCase):
    def test_each_in_the_place_of_its_field(self):
        for place in range(4):
            for number in range(1, 5):
                numbers = list(AS_IT_IS)
                numbers[place] = number
                for field in range(1, 5):
                    expected = number if field == place + 1 else field
                    self.assert_moved(f"{expected}[+0:-0]", numbers, f"{field}[+0:-0]")

    def test_all_numbers_at_once(self):
        for numbers in ALL_NUMBERS:
            expected = "&".join([f"{number}[+0:-0]" for number in numbers])
            self.assertEqual(moved(*numbers, text(ALL_FOUR)), [0] + text(expected), numbers)

    def test_all_four_in_another_order(self):
        self.assert_moved("2[+0:-0]&3[+0:-0]&4[+0:-0]&1[+0:-0]", (2, 3, 4, 1), ALL_FOUR)
        self.assert_moved("4[+0:-0]&3[+0:-0]&2[+0:-0]&1[+0:-0]", (4, 3, 2, 1), ALL_FOUR)
        self.assert_moved("1[+0:-0]^&3[+1:-0]&1[+2:-0]&2[+3:-0]&4[-4:-0]~", (2, 4, 1, 3),
                          "3[+0:-0]^&4[+1:-0]&3[+2:-0]&1[+3:-0]&2[-4:-0]~")

    def test_several_to_the_same_one(self):
        for number in range(1, 5):
            self.assert_moved("&".join([f"{number}[+0:-0]"] * 4), (number,) * 4, ALL_FOUR)
        self.assert_moved("3[+0:-0]&1[+0:-0]&3[+0:-0]&1[+0:-0]", (3, 1, 3, 1), ALL_FOUR)

    def test_numbers_that_leave_the_program_as_it_is(self):
        for program in (ALL_FOUR, EXAMPLE, SIX, "0", '"a""b"&4[.|B-12:-7]_'):
            self.assert_moved(program, AS_IT_IS, program)
        self.assert_moved("2[+0:-0]", (4, 2, 1, 1), "2[+0:-0]")
        self.assert_moved("1[+0:-0]&4[+0:-0]", (1, 3, 2, 4), "1[+0:-0]&4[+0:-0]")

    def test_none_is_moved_twice(self):
        self.assert_moved("2[+0:-0]&1[+0:-0]", (2, 1, 3, 4), "1[+0:-0]&2[+0:-0]")
        self.assert_moved("1[+0:-0]&2[+0:-0]", (2, 1, 3, 4), "2[+0:-0]&1[+0:-0]")
        self.assert_moved("2[+0:-0]&2[+0:-0]&3[+0:-0]", (2, 3, 4, 1), "1[+0:-0]&1[+0:-0]&2[+0:-0]")

    def test_the_same_field_in_several_parts(self):
        self.assert_moved("3[+0:-0]&3[+1:-0]^&3[+0:-1]", (3, 4, 4, 4), "1[+0:-0]&1[+1:-0]^&1[+0:-1]")

    def test_the_program_of_the_example(self):
        self.assert_moved('3[B|.+1:-0]^&", "&3[+0:+1]&"."', (3, 1, 1, 1), EXAMPLE)


class WithoutParts(MovedCase):
    def test_the_empty_program(self):
        for numbers in ALL_NUMBERS:
            self.assertEqual(moved(*numbers, text("0")), [0, 48])
        self.assert_untouched("0")

    def test_constants_alone(self):
        self.assert_untouched('"a"', '" "&""""', '"0"', SIX)

    def test_digits_in_constants_stay(self):
        self.assert_untouched('"1"', '"1234"', '"1[+0:-0]"', '"""1[+1:-2]"', '"&1[+0:-0]&"')
        self.assert_moved('"1"&2[+0:-0]&"1"&1[+0:-0]&"2"', (2, 1, 3, 4), '"1"&1[+0:-0]&"1"&2[+0:-0]&"2"')


class Written(MovedCase):
    def test_bytes_of_constants(self):
        for byte in range(32, 127):
            sign = '""' if byte == 34 else chr(byte)
            self.assert_untouched(f'"{sign}"')
            self.assert_moved(f'2[+0:-0]&"a{sign}b"', (2, 1, 1, 1), f'1[+0:-0]&"a{sign}b"')

    def test_quotes_are_written_twice(self):
        self.assert_untouched('""""', '""""""', '"""a"', '"a"""', '"a""b"', '"a""""b"', '"' + '""' * 12 + '"')
        self.assert_moved('"a""b"&4[+0:-0]&""""', (4, 4, 4, 4), '"a""b"&3[+0:-0]&""""')

    def test_lengths_of_constants(self):
        for length in range(1, 13):
            self.assert_untouched('"' + "x" * length + '"')

    def test_numbers_of_one_and_of_two_digits(self):
        for distance in range(61):
            self.assert_written(f"1[+{distance}:-{distance}]")
            self.assert_written(f"1[-{distance}:+{distance}]")
        for rank in range(1, 41):
            self.assert_written(f"1[D|.+{rank}:.|L-{rank}]")
            self.assert_written(f"1[U|B-{rank}:A|N+{rank}]")

    def test_digits_in_numbers_stay(self):
        self.assert_moved("2[+1:-2]&1[+2:-1]", (2, 1, 3, 4), "1[+1:-2]&2[+2:-1]")
        self.assert_moved("4[+12:-34]&3[D|L+21:.|B-34]", (4, 3, 2, 1), "1[+12:-34]&2[D|L+21:.|B-34]")
        self.assert_moved("4[+4:-3]_&3[+2:-1]", (3, 3, 4, 3), "3[+4:-3]_&4[+2:-1]")

    def test_classes(self):
        for sign in FILLED_CLASSES:
            self.assert_written(f"1[{sign}|.+1:.|{sign}-1]")
            self.assert_written(f"1[.|{sign}+1:{sign}|.-1]")
            self.assert_written(f"1[{sign}|{sign}+1:-0]")
            self.assert_written(f"1[{sign}|A+1:D|{sign}+1]^")

    def test_signs_behind_parts(self):
        for turn in ("", "^", "_", "~"):
            self.assert_written(f"1[+0:-0]{turn}")
        self.assert_moved("2[+0:-0]^&1[+0:-0]_&4[+0:-0]~&3[+0:-0]", (2, 1, 4, 3),
                          "1[+0:-0]^&2[+0:-0]_&3[+0:-0]~&4[+0:-0]")

    def test_all_four_sorts_of_positions_at_either_side(self):
        sorts = ("+0", "+12", "-0", "-7", "D|L+3", "'-|.+40", ".|'\"-1", "B|''-10")
        for first in sorts:
            for second in sorts:
                self.assert_written(f"1[{first}:{second}]_")

    def test_six_pieces(self):
        self.assert_untouched("&".join(['"' + '""' * 12 + '"'] * 6))
        self.assert_moved("&".join(["3[+0:-0]"] * 6), (1, 1, 1, 3), "&".join(["4[+0:-0]"] * 6))
        self.assert_moved('4[+0:-0]&"a"&3[+1:-1]^&"1"&2[D|L+1:-0]&1[+0:+9]~', (4, 3, 2, 1),
                          '1[+0:-0]&"a"&2[+1:-1]^&"1"&3[D|L+1:-0]&4[+0:+9]~')


class ReadAgain(MovedCase):
    PROGRAMS = (EXAMPLE, ALL_FOUR, "0", '"a""b"&4[.|B-12:-7]_', "2['||'--12:-0]~&1[+10:''|'\"+9]^", SIX)

    def test_as_many_pieces_of_the_same_costs(self):
        for program in self.PROGRAMS:
            for numbers in ((2, 1, 4, 3), (1, 1, 1, 1), (4, 4, 3, 2)):
                written = self.ask(moved, *numbers, text(program))[1:]
                self.assertEqual(read(written), read(text(program)))
                self.assertEqual(cost(written), cost(text(program)))

    def test_the_fields_that_it_names(self):
        for program in self.PROGRAMS:
            for numbers in ALL_NUMBERS:
                written = moved(*numbers, text(program))[1:]
                expected = sorted({numbers[field - 1] for field in fields(text(program))[1:]})
                self.assertEqual(fields(written), [0] + expected)

    def test_moved_and_moved_back(self):
        for program in self.PROGRAMS:
            for numbers in itertools.permutations(AS_IT_IS):
                back = [numbers.index(field) + 1 for field in AS_IT_IS]
                written = moved(*numbers, text(program))[1:]
                self.assertEqual(moved(*back, written), [0] + text(program))
                self.assertEqual(compare(moved(*back, written)[1:], text(program)), [0, 0])

    def test_what_it_gives_on_a_record_in_the_other_order(self):
        programs = ('1[+0:-0]&"/"&2[+0:+1]^&"/"&4[-1:-0]', "3[B|.+1:-0]~&1[+0:A|.+1]_", ALL_FOUR)
        texts = ("Ada Lovelace", "b2", "say x", "4d-E")
        for program in programs:
            for numbers in itertools.permutations(AS_IT_IS):
                laid = [texts[numbers.index(field)] for field in AS_IT_IS]
                given = run(moved(*numbers, text(program))[1:], record(*laid))
                self.assertEqual(given, run(text(program), record(*texts)))

    def test_written_as_join_writes(self):
        for program in self.PROGRAMS:
            self.assertEqual(moved(*AS_IT_IS, text(program)), join(text(program), text("0")))


class NoFieldNumbers(MovedCase):
    def assert_refused(self, program):
        for place in range(4):
            for wrong in NO_NUMBERS:
                numbers = list(AS_IT_IS)
                numbers[place] = wrong
                self.assert_answer([-2], moved, *numbers, program)

    def test_in_each_place(self):
        self.assert_refused(ALL_FOUR)
        for wrong in NO_NUMBERS:
            self.assert_answer([-2], moved, wrong, wrong, wrong, wrong, ALL_FOUR)

    def test_also_where_the_program_names_no_such_field(self):
        for program in ("0", '"a"', SIX, "1[+0:-0]", "2[+0:-0]", "3[+0:-0]", "4[+0:-0]"):
            self.assert_refused(program)

    def test_ahead_of_every_fault(self):
        for program, fault in FAULTS:
            self.assert_refused(program)

    def test_ahead_of_a_text_that_is_too_long(self):
        for long in (TOO_LONG, "0" * 1001, [255] * 10000):
            self.assert_refused(long)

    def test_all_from_minus_10_to_10(self):
        for place in range(4):
            for number in range(-10, 11):
                numbers = [1, 1, 1, 1]
                numbers[place] = number
                self.assert_answer([0, 48] if 1 <= number <= 4 else [-2], moved, *numbers, "0")


class FaultsAndRefusals(MovedCase):
    def test_faults(self):
        for program, fault in FAULTS:
            for numbers in (AS_IT_IS, (4, 3, 2, 1), (1, 1, 1, 1), (4, 4, 4, 4)):
                self.assert_answer(fault, moved, *numbers, program)

    def test_faults_behind_parts(self):
        self.assert_answer([1, 9], moved, 2, 1, 3, 4, "1[+0:-0]&5[+0:-0]")
        self.assert_answer([2, 9], moved, 2, 1, 3, 4, '2[+0:-0]&""')
        self.assert_answer([3, 12], moved, 2, 1, 3, 4, "3[+0:-0]&4[+61:-0]")
        self.assert_answer([4, 11], moved, 2, 1, 3, 4, "3[+0:-0]&1[.|.+1:-0]")
        self.assert_answer([5, 54], moved, 2, 1, 3, 4, "&".join(["1[+0:-0]"] * 7))
        self.assert_answer([5, 24], moved, 2, 1, 3, 4, SEVEN)

    def test_long_texts(self):
        for numbers in (AS_IT_IS, (4, 3, 2, 1), (1, 1, 1, 1), (4, 4, 4, 4)):
            self.assert_answer([2, 0], moved, *numbers, THOUSAND_BYTES)
            for long in (TOO_LONG, "x" * 1001, "0" * 1001, EXAMPLE + " " * (1001 - len(EXAMPLE)), [255] * 10000):
                self.assert_answer([-5], moved, *numbers, long)


class NothingKept(MovedCase):
    def test_calls_between_do_not_matter(self):
        for other in ((4, 3, 2, 1, text("1[+0:-0]")), (0, 1, 2, 3, text("1[+0:-0]")), (1, 1, 1, 1, []),
                      (2, 2, 2, 2, text("0")), (3, 3, 3, 3, text(TOO_LONG)), (2, 1, 4, 3, text(ALL_FOUR))):
            self.ask(moved, *other)
            self.assert_moved("2[+0:-0]", (2, 1, 3, 4), "1[+0:-0]")

    def test_the_text_is_as_it_was(self):
        program = text(ALL_FOUR)
        moved(4, 3, 2, 1, program)
        self.assertEqual(program, text(ALL_FOUR))

    def test_an_answer_is_not_the_text_that_was_handed_in(self):
        program = text('"a"')
        moved(1, 2, 3, 4, program).append(7)
        self.assertEqual(program, text('"a"'))

    def test_by_its_names(self):
        self.assertEqual(moved(program=text("1[+0:-0]"), d=4, c=3, b=1, a=2), [0] + text("2[+0:-0]"))


if __name__ == "__main__":
    unittest.main()
