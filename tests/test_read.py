"""Promise 1: read, of texts that are programs, and what comes ahead of its faults."""

import re
import unittest

from fieldprograms.desk import read
from tests.helper import EXAMPLE, POSITION, CallCase, near_texts, text

PART = rf"[1-4]\[{POSITION}:{POSITION}\][\^_~]?"
CONSTANT = r'"(?:[ !#-~]|""){1,12}"'
PIECE = rf"(?:{PART}|{CONSTANT})"
PROGRAM = re.compile(rf"(?:0|{PIECE}(?:&{PIECE}){{0,5}})")


class Examples(CallCase):
    def test_the_example_program(self):
        self.assert_answer([0, 4, 29], read, EXAMPLE)

    def test_the_examples_of_faults(self):
        self.assert_answer([1, 7], read, "1[+0:-0")
        self.assert_answer([2, 0], read, '""')
        self.assert_answer([3, 3], read, "1[+61:-0]")
        self.assert_answer([4, 2], read, "1[.|.+1:-0]")
        self.assert_answer([1, 4], read, '"a"&')
        self.assert_answer([1, 0], read, "")


class Programs(CallCase):
    def test_the_empty_program(self):
        self.assert_answer([0, 0, 0], read, "0")

    def test_pieces_are_counted(self):
        for count in range(1, 7):
            self.assert_answer([0, count, 5 * count], read, "&".join(['"a"'] * count))
            self.assert_answer([0, count, 4 * count], read, "&".join(["1[+0:-0]"] * count))

    def test_the_four_fields(self):
        for field in "1234":
            self.assert_answer([0, 1, 4], read, f"{field}[+0:-0]")

    def test_costs(self):
        self.assert_answer([0, 1, 12], read, "1[+1:-60]")
        self.assert_answer([0, 1, 7], read, "1[+0:-0]~")
        self.assert_answer([0, 1, 48], read, "1[D|L-40:+0]")
        self.assert_answer([0, 1, 27], read, '"abcdefghijkl"')
        self.assert_answer([0, 1, 5], read, '""""')

    def test_every_class_on_either_side(self):
        signs = list("DLUANB") + ["'" + chr(byte) for byte in range(33, 127) if not chr(byte).isalnum()]
        for sign in signs:
            self.assert_answer([0, 1, 6], read, f"1[{sign}|.+1:+0]")
            self.assert_answer([0, 1, 6], read, f"1[.|{sign}+1:+0]")
            self.assert_answer([0, 1, 9], read, f"1[-0:{sign}|{sign}-1]")

    def test_the_class_of_the_point_is_not_the_empty_class(self):
        self.assert_answer([0, 1, 8], read, "1['.|'.+1:+0]")
        self.assert_answer([0, 1, 6], read, "1[.|'.+1:+0]")

    def test_all_bytes_of_constants(self):
        for byte in range(32, 127):
            doubled = [byte, byte] if byte == 34 else [byte]
            self.assert_answer([0, 1, 5], read, [34] + doubled + [34])

    def test_the_longest_program(self):
        constant = '"' + '""' * 12 + '"'
        self.assert_answer([0, 6, 6 * 27], read, "&".join([constant] * 6))


class LongTexts(CallCase):
    def test_a_thousand_bytes_are_read(self):
        self.assert_answer([2, 0], read, '"' + "a" * 998 + '"')
        self.assert_answer([1, 1000], read, '"' + "a" * 999)
        self.assert_answer([3, 3], read, "1[+" + "1" * 997)
        self.assert_answer([1, 1], read, "0" * 1000)

    def test_more_are_refused_whatever_they_are(self):
        self.assert_answer([-5], read, '"' + "a" * 999 + '"')
        self.assert_answer([-5], read, "0" * 1001)
        self.assert_answer([-5], read, "x" * 1001)
        self.assert_answer([-5], read, EXAMPLE + " " * (1001 - len(EXAMPLE)))
        self.assert_answer([-5], read, [255] * 10000)


class AgainstTheGrammar(CallCase):
    """Texts near to programs are programs just if a pattern of the whole grammar says so."""

    def test_programs_are_told_from_other_texts(self):
        programs = [EXAMPLE, "0", "2[.|'|-9:''|D+40]~&\"\"\"\"", '"ab""c "&4[-60:+59]_', "3[A|U+31:N|.-10]"]
        found = {True: 0, False: 0}
        for program in programs:
            for near in near_texts(program):
                is_program = PROGRAM.fullmatch(near) is not None
                self.assertEqual(read(text(near))[0] == 0, is_program, near)
                found[is_program] += 1
        self.assertGreater(min(found.values()), 100)


class NothingKept(CallCase):
    def test_calls_between_do_not_matter(self):
        program = text(EXAMPLE)
        for other in ("0", '""', "1[+0", "", "2[D|L+3:-0]", "x" * 1001):
            self.ask(read, text(other))
            self.assertEqual(self.ask(read, program), [0, 4, 29])

    def test_the_text_is_as_it_was(self):
        program = text(EXAMPLE)
        read(program)
        self.assertEqual(program, text(EXAMPLE))


if __name__ == "__main__":
    unittest.main()
