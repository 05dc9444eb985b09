"""Promise 3: trace."""

import unittest

from fieldprograms.desk import run, trace
from tests.helper import EXAMPLE, CallCase, record, text


class TraceCase(CallCase):
    def assert_traced(self, expected, program, *fields):
        """expected: five numbers for each piece."""
        numbers = [number for five in expected for number in five]
        self.assert_answer([0] + numbers, trace, program, record(*fields))

    def assert_gives_nothing(self, number, program, *fields):
        self.assert_answer([1, number], trace, program, record(*fields))


class Examples(TraceCase):
    def test_the_example(self):
        self.assert_traced([(0, 8, 1, 4, 12), (8, 10, 0, 0, 0), (10, 11, 1, 0, 1), (11, 12, 0, 0, 0)],
                           EXAMPLE, "Ada Lovelace")

    def test_the_example_that_gives_nothing(self):
        self.assert_gives_nothing(0, EXAMPLE, "Ada")


class Traced(TraceCase):
    def test_the_empty_program(self):
        self.assert_traced([], "0", "Ada")
        self.assert_traced([], "0", "")

    def test_constants(self):
        self.assert_traced([(0, 1, 0, 0, 0)], '"a"', "")
        self.assert_traced([(0, 12, 0, 0, 0), (12, 13, 0, 0, 0)], '"abcdefghijkl"&"m"', "x")
        self.assert_traced([(0, 3, 0, 0, 0)], '"a""b"', "x")

    def test_parts_of_several_fields(self):
        self.assert_traced([(0, 3, 2, 1, 4), (3, 4, 0, 0, 0), (4, 6, 1, 0, 2), (6, 7, 4, 2, 3), (7, 11, 3, 0, 4)],
                           '2[+1:-0]&"-"&1[+0:+2]&4[-1:-0]&3[+0:-0]', "abc", "defg", "hijk", "lmn")

    def test_one_part_of_each_sort_of_position(self):
        self.assert_traced([(0, 3, 1, 2, 5)], "1[+2:+5]", "Ada Lovelace")
        self.assert_traced([(0, 3, 1, 7, 10)], "1[-5:-2]", "Ada Lovelace")
        self.assert_traced([(0, 4, 1, 1, 5)], "1[U|L+1:U|L+2]", "Ada Lovelace")
        self.assert_traced([(0, 8, 1, 4, 12)], "1[B|U-1:A|.-1]", "Ada Lovelace")

    def test_a_sign_behind_a_part_changes_no_place(self):
        for turn in ("", "^", "_", "~"):
            self.assert_traced([(0, 1, 0, 0, 0), (1, 5, 1, 3, 7)], f'"x"&1[+3:+7]{turn}', "aBc DeFg")

    def test_six_long_pieces(self):
        self.assert_traced([(40 * count, 40 * count + 40, 1, 0, 40) for count in range(6)],
                           "&".join(["1[+0:-0]"] * 6), "x" * 40)

    def test_the_places_fit_what_run_gives(self):
        program, field = text('1[.|U-1:-0]&", "&1[+0:A|.+1]&"/"&1[+2:-3]'), "Ada Lovelace"
        given = run(program, record(field))[1:]
        numbers = trace(program, record(field))[1:]
        self.assertEqual(len(numbers), 25)
        for begin, end, number, first, second in zip(*[iter(numbers)] * 5):
            if number != 0:
                self.assertEqual(given[begin:end], text(field)[first:second])
        self.assertEqual(numbers[-4], len(given))


class GivesNothing(TraceCase):
    def test_the_first_piece_that_gives_nothing(self):
        self.assert_gives_nothing(0, "1[+0:-0]", "")
        self.assert_gives_nothing(0, "1[+2:+2]", "abc")
        self.assert_gives_nothing(0, '1[+9:-0]&"a"&2[+0:-0]', "abc")
        self.assert_gives_nothing(1, '"a"&2[+0:-0]&1[+9:-0]', "abc")
        self.assert_gives_nothing(2, '"a"&1[+0:-0]&1[.|D+1:-0]', "abc")
        self.assert_gives_nothing(5, '"a"&"a"&"a"&"a"&"a"&1[+2:+1]', "abc")


class FaultsAndRefusals(TraceCase):
    def test_records(self):
        for wrong in ([], record(*["x"] * 5), record("x" * 41), record("x", [31]), record([127], "x")):
            for program in ("0", '"a"', "1[+0:-0]", "4[+0:-0]"):
                self.assert_answer([-1], trace, program, wrong)
        self.assert_traced([(0, 40, 4, 0, 40)], "4[+0:-0]", "", " ", "~", "x" * 40)

    def test_the_program_is_read_first(self):
        for any_record in ([], record("x" * 41), record([31]), record(*["x"] * 5), record("x")):
            self.assert_answer([1, 7], trace, "1[+0:-0", any_record)
            self.assert_answer([1, 1], trace, "00", any_record)
            self.assert_answer([2, 0], trace, '""', any_record)
            self.assert_answer([3, 3], trace, "1[+61:-0]", any_record)
            self.assert_answer([4, 2], trace, "1[.|.+1:-0]", any_record)
            self.assert_answer([5, 24], trace, "&".join(['"a"'] * 7), any_record)
            self.assert_answer([2, 0], trace, '"' + "a" * 998 + '"', any_record)
            self.assert_answer([-5], trace, '"' + "a" * 999 + '"', any_record)


class NothingKept(TraceCase):
    def test_calls_between_do_not_matter(self):
        for other in ([text("0"), record("x")], [text('"b"'), []], [text("2[+0:-0]"), record("x")], [[], []],
                      [text("1[+0:-0]^"), record("ada lovelace")]):
            self.ask(trace, *other)
            self.test_again()

    def test_again(self):
        self.assert_traced([(0, 2, 2, 1, 3), (2, 3, 0, 0, 0)], '2[+1:-0]&"a"', "x", "abc")

    def test_program_and_record_are_as_they_were(self):
        program, fields = text("1[+0:-0]^&2[+0:+1]_"), record("aBc", "d")
        trace(program, fields)
        self.assertEqual(program, text("1[+0:-0]^&2[+0:+1]_"))
        self.assertEqual(fields, record("aBc", "d"))


if __name__ == "__main__":
    unittest.main()
