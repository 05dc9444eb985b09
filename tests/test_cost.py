"""Promise 4: cost."""

import unittest

from fieldprograms.desk import cost, read
from tests.helper import EXAMPLE, CallCase, text


class CostCase(CallCase):
    def assert_costs(self, expected, program):
        """expected: each piece's cost."""
        self.assert_answer([0, sum(expected)] + expected, cost, program)

    def assert_position_costs(self, expected, position):
        """In either place of a part, beside a position that costs 1."""
        self.assert_costs([2 + expected + 1], f"1[{position}:-0]")
        self.assert_costs([2 + 1 + expected], f"1[+0:{position}]")


class Examples(CostCase):
    def test_the_example(self):
        self.assert_answer([0, 29, 9, 7, 8, 5], cost, EXAMPLE)


class Positions(CostCase):
    def test_at_the_ends(self):
        self.assert_position_costs(1, "+0")
        self.assert_position_costs(1, "-0")

    def test_away_from_the_ends(self):
        for distance in (1, 2, 9, 10, 59, 60):
            self.assert_position_costs(5, f"+{distance}")
            self.assert_position_costs(5, f"-{distance}")

    def test_two_classes(self):
        for rank in (1, 2, 9, 10, 39, 40):
            for classes in ("D|L", "U|U", "'-|B", "A|'|", "''|'\"", "'.|'.", "N|'."):
                self.assert_position_costs(4 + rank, f"{classes}+{rank}")
                self.assert_position_costs(5 + rank, f"{classes}-{rank}")

    def test_one_class(self):
        for rank in (1, 2, 9, 10, 39, 40):
            for classes in ("D|.", ".|L", "'.|.", ".|'.", "B|.", ".|''"):
                self.assert_position_costs(2 + rank, f"{classes}+{rank}")
                self.assert_position_costs(3 + rank, f"{classes}-{rank}")


class Pieces(CostCase):
    def test_constants(self):
        self.assert_costs([5], '"a"')
        self.assert_costs([5], '" "')
        self.assert_costs([27], '"abcdefghijkl"')
        for length in range(1, 13):
            self.assert_costs([3 + 2 * length], '"' + "a" * length + '"')

    def test_a_quote_counts_as_one_byte(self):
        self.assert_costs([5], '""""')
        self.assert_costs([9], '"a""b"')
        self.assert_costs([27], '"' + '""' * 12 + '"')

    def test_parts(self):
        for field in "1234":
            self.assert_costs([4], f"{field}[+0:-0]")
            for turn in "^_~":
                self.assert_costs([7], f"{field}[+0:-0]{turn}")
        self.assert_costs([12], "1[+1:-1]")
        self.assert_costs([95], "1[D|L-40:'-|'--40]^")


class Programs(CostCase):
    def test_the_empty_program(self):
        self.assert_answer([0, 0], cost, "0")

    def test_several_pieces_in_their_order(self):
        self.assert_costs([5, 4, 7, 12], '"a"&1[+0:-0]&2[+0:-0]~&3[+1:-1]')
        self.assert_costs([12, 7, 4, 5], '3[+1:-1]&2[+0:-0]~&1[+0:-0]&"a"')
        self.assert_costs([5, 7, 9, 11, 13, 15], '"a"&"bb"&"ccc"&"dddd"&"eeeee"&"ffffff"')

    def test_the_whole_cost_is_the_one_that_read_answers(self):
        for program in ("0", EXAMPLE, '"a""b"&4[.|B-12:-7]_'):
            answer = self.ask(cost, text(program))
            self.assertEqual(read(text(program)), [0, len(answer) - 2, answer[1]])
            self.assertEqual(sum(answer[2:]), answer[1])


class FaultsAndRefusals(CostCase):
    def test_faults(self):
        self.assert_answer([1, 0], cost, "")
        self.assert_answer([1, 1], cost, "0&")
        self.assert_answer([1, 7], cost, "1[+0:-0")
        self.assert_answer([1, 4], cost, '"a"&')
        self.assert_answer([2, 0], cost, '""')
        self.assert_answer([2, 0], cost, '"abcdefghijklm"')
        self.assert_answer([3, 3], cost, "1[+61:-0]")
        self.assert_answer([3, 6], cost, "1[D|L+0:-0]")
        self.assert_answer([4, 2], cost, "1[.|.+1:-0]")
        self.assert_answer([5, 24], cost, "&".join(['"a"'] * 7))

    def test_long_texts(self):
        self.assert_answer([2, 0], cost, '"' + "a" * 998 + '"')
        self.assert_answer([-5], cost, '"' + "a" * 999 + '"')
        self.assert_answer([-5], cost, "x" * 1001)
        self.assert_answer([-5], cost, [0] * 10000)


class NothingKept(CostCase):
    def test_calls_between_do_not_matter(self):
        for other in ("0", '""', "1[+0", "", "2[D|L+3:-0]", "x" * 1001):
            self.ask(cost, text(other))
            self.assert_answer([0, 29, 9, 7, 8, 5], cost, EXAMPLE)

    def test_the_text_is_as_it_was(self):
        program = text(EXAMPLE)
        cost(program)
        self.assertEqual(program, text(EXAMPLE))


if __name__ == "__main__":
    unittest.main()
