"""Promise 10: fields."""

import itertools
import unittest

from fieldprograms.desk import fields, run
from tests.helper import EXAMPLE, FAULTS, SEVEN, SIX, TOO_LONG, CallCase, record, text


class FieldsCase(CallCase):
    def assert_fields(self, expected, program):
        self.assert_answer([0] + expected, fields, program)


class Named(FieldsCase):
    def test_the_program_of_the_example(self):
        self.assert_fields([1], EXAMPLE)

    def test_the_empty_program(self):
        self.assert_fields([], "0")

    def test_constants_alone(self):
        self.assert_fields([], '"a"')
        self.assert_fields([], '" "&""""')
        self.assert_fields([], SIX)

    def test_one_part(self):
        for number in range(1, 5):
            for turn in ("", "^", "_", "~"):
                self.assert_fields([number], f"{number}[+0:-0]{turn}")
            for positions in ("+12:-3", "D|L+1:'-|.-40", ".|B-2:+60", "-60:''|'\"+10"):
                self.assert_fields([number], f"{number}[{positions}]")

    def test_the_same_field_in_several_parts(self):
        self.assert_fields([2], "2[+0:+1]&2[+1:-0]")
        self.assert_fields([3], "3[+0:-0]&3[+0:-0]^&3[D|L+1:-0]")
        self.assert_fields([4], "&".join(["4[+0:-0]"] * 6))
        self.assert_fields([1, 4], "4[+0:-0]&1[+0:-0]&4[+0:-0]&1[+0:-0]&1[+1:-0]&4[+0:-0]")

    def test_all_four_in_every_order(self):
        for order in itertools.permutations("1234"):
            self.assert_fields([1, 2, 3, 4], "&".join([f"{number}[+0:-0]" for number in order]))
        self.assert_fields([1, 2, 3, 4], '4[+0:-0]&"1"&3[+0:-0]&2[+0:-0]&"4"&1[+0:-0]')

    def test_some_of_the_fields_in_every_order(self):
        for count in range(1, 4):
            for order in itertools.product((1, 2, 3, 4), repeat=count):
                program = "&".join([f"{number}[+0:-0]" for number in order])
                self.assert_fields(sorted(set(order)), program)

    def test_parts_among_constants(self):
        self.assert_fields([2], '"a"&2[+0:-0]&"b"')
        self.assert_fields([1, 3], '"a"&3[+0:-0]&"b"&1[+0:-0]&"c"')
        self.assert_fields([4], '"a"&"b"&"c"&"d"&"e"&4[+0:-0]')
        self.assert_fields([1], '1[+0:-0]&"b"&"c"&"d"&"e"&"f"')

    def test_digits_in_constants_name_no_field(self):
        self.assert_fields([], '"1234"')
        self.assert_fields([], '"1[+0:-0]"')
        self.assert_fields([], '"a""2[+0:-0]"')
        self.assert_fields([4], '"1"&4[+0:-0]&"&2[+0:-0]"&"3"')

    def test_digits_in_positions_name_no_field(self):
        self.assert_fields([1], "1[+2:-3]")
        self.assert_fields([4], "4[+12:-23]")
        self.assert_fields([3], "3[D|L+1:.|A-24]")
        self.assert_fields([2, 3], "3[+1:+4]&2[-4:-1]")

    def test_whether_a_record_has_the_field_does_not_matter(self):
        self.assertEqual(run(text("4[+9:+8]"), record("x")), [1, 0])
        self.assert_fields([4], "4[+9:+8]")


class FaultsAndRefusals(FieldsCase):
    def test_faults(self):
        for program, fault in FAULTS:
            self.assert_answer(fault, fields, program)

    def test_faults_behind_parts(self):
        self.assert_answer([1, 9], fields, "1[+0:-0]&")
        self.assert_answer([1, 9], fields, "1[+0:-0]&5[+0:-0]")
        self.assert_answer([2, 9], fields, '2[+0:-0]&""')
        self.assert_answer([3, 12], fields, "3[+0:-0]&4[+61:-0]")
        self.assert_answer([4, 11], fields, "3[+0:-0]&1[.|.+1:-0]")
        self.assert_answer([5, 54], fields, "&".join(["1[+0:-0]"] * 7))

    def test_seven_pieces(self):
        self.assert_answer([5, 24], fields, SEVEN)

    def test_long_texts(self):
        self.assert_answer([2, 0], fields, '"' + "a" * 998 + '"')
        self.assert_answer([1, 1], fields, "0" * 1000)
        for long in (TOO_LONG, "x" * 1001, "0" * 1001, EXAMPLE + " " * (1001 - len(EXAMPLE)), [255] * 10000):
            self.assert_answer([-5], fields, long)


class NothingKept(FieldsCase):
    def test_calls_between_do_not_matter(self):
        for other in ("0", '""', "1[+0", "", "2[D|L+3:-0]", "4[+0:-0]&1[+0:-0]", "x" * 1001):
            self.ask(fields, text(other))
            self.assert_fields([1, 3], "3[+0:-0]&1[+0:-0]")

    def test_the_text_is_as_it_was(self):
        program = text("3[+0:-0]&1[+0:-0]")
        fields(program)
        self.assertEqual(program, text("3[+0:-0]&1[+0:-0]"))

    def test_by_its_name(self):
        self.assertEqual(fields(program=text(EXAMPLE)), [0, 1])


if __name__ == "__main__":
    unittest.main()
