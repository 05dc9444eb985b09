"""Promise 1: the faults of a program's text, their kinds and places."""

import unittest

from fieldprograms.desk import read
from tests.helper import CallCase, text

ANY_PRINTED = "".join(chr(byte) for byte in range(32, 127))
DIGITS = "0123456789"
CLASS_SIGNS = "DLUANB.'"
NO_LETTER_OR_DIGIT = "".join(sign for sign in ANY_PRINTED if sign != " " and not sign.isalnum())

# A beginning of a program, and every sign that can stand behind it.
CAN_FOLLOW = (
    ("", '01234"'),
    ("0", ""),
    ('"', ANY_PRINTED),
    ('"a', ANY_PRINTED),
    ('"a""', ANY_PRINTED),
    ('"abcdefghijklm', ANY_PRINTED),
    ('"a"', '"&'),
    ('"a"&', '1234"'),
    ("1", "["),
    ("4", "["),
    ("1[", "+-" + CLASS_SIGNS),
    ("1[+", DIGITS),
    ("1[-", DIGITS),
    ("1[+0", DIGITS + ":"),
    ("1[-6", DIGITS + ":"),
    ("1['", NO_LETTER_OR_DIGIT),
    ("1['-", "|"),
    ("1['|", "|"),
    ("1[D", "|"),
    ("1[.", "|"),
    ("1[D|", CLASS_SIGNS),
    ("1[.|", CLASS_SIGNS),
    ("1[D|'", NO_LETTER_OR_DIGIT),
    ("1[D|L", "+-"),
    ("1[D|.", "+-"),
    ("1[D|'+", "+-"),
    ("1[D|L+", DIGITS),
    ("1[D|L-", DIGITS),
    ("1[D|L+4", DIGITS + ":"),
    ("1[+0:", "+-" + CLASS_SIGNS),
    ("1[+0:-", DIGITS),
    ("1[+0:-0", DIGITS + "]"),
    ("1[+0:D|L+1", DIGITS + "]"),
    ("1[+0:-0]", "^_~&"),
    ("1[+0:-0]^", "&"),
    ("1[+0:-0]_", "&"),
    ("1[+0:-0]~", "&"),
    ("1[+0:-0]&", '1234"'),
    ("&".join(['"a"'] * 6), '"&'),
)


class WrongBytes(CallCase):
    def test_every_byte_at_every_point(self):
        for beginning, can_follow in CAN_FOLLOW:
            for byte in range(256):
                answer = read(text(beginning) + [byte])
                is_wrong = chr(byte) not in can_follow
                # A text that ends too soon has its fault one place further on.
                self.assertEqual(answer == [1, len(beginning)], is_wrong, (beginning, byte))

    def test_what_stands_behind_a_wrong_byte_does_not_matter(self):
        self.assert_answer([1, 0], read, "x1[+61:")
        self.assert_answer([1, 0], read, "5[+0:-0]")
        self.assert_answer([1, 0], read, " 1[+0:-0]")
        self.assert_answer([1, 1], read, "12[+0:-0]")
        self.assert_answer([1, 2], read, "1[ +0:-0]")
        self.assert_answer([1, 4], read, "1[+0 :-0]")
        self.assert_answer([1, 3], read, "1[' |D+1:-0]")
        self.assert_answer([1, 2], read, '"a\x1f""')
        self.assert_answer([1, 2], read, '"a\x7f')
        self.assert_answer([1, 3], read, '"a",""')
        self.assert_answer([1, 9], read, "1[+0:-0]^^")

    def test_behind_a_0_at_the_beginning(self):
        for behind in ("0", "1", "&", '&"a"', "[+0:-0]", " ", "\x00"):
            self.assert_answer([1, 1], read, "0" + behind)

    def test_a_0_elsewhere(self):
        self.assert_answer([1, 4], read, '"a"&0')
        self.assert_answer([1, 9], read, "1[+0:-0]&0[+0:-0]")


class EndsTooSoon(CallCase):
    def check_beginnings(self, *steps):
        """Just the texts that end with a step are programs; all others end too soon."""
        program = "".join(steps)
        whole = ["".join(steps[:count]) for count in range(1, len(steps) + 1)]
        for length in range(len(program) + 1):
            beginning = program[:length]
            if beginning in whole:
                self.assertEqual(self.ask(read, text(beginning))[0], 0, beginning)
            else:
                self.assert_answer([1, length], read, beginning)

    def test_all_beginnings(self):
        self.check_beginnings("1[+10:-60]", "^")
        self.check_beginnings("2[D|'-+40:'\"|.-12]", "&3[.|B+1:-0]", "~")
        self.check_beginnings('"a b"', '&"c"', '"d"')

    def test_a_quote_that_is_written_twice_ends_nothing(self):
        self.assert_answer([1, 3], read, '"""')
        self.assert_answer([1, 4], read, '"a""')
        self.assert_answer([1, 5], read, '"""""')

    def test_a_constant_without_end_ahead_of_its_length(self):
        self.assert_answer([1, 1], read, '"')
        self.assert_answer([1, 14], read, '"abcdefghijklm')


class WrongConstants(CallCase):
    def test_lengths(self):
        for length in range(1, 13):
            self.assert_answer([0, 1, 3 + 2 * length], read, '"' + "a" * length + '"')
            self.assert_answer([0, 1, 3 + 2 * length], read, '"' + '""' * length + '"')
        for length in (0, 13, 14, 100):
            self.assert_answer([2, 0], read, '"' + "a" * length + '"')
        for length in (13, 14, 100):
            self.assert_answer([2, 0], read, '"' + '""' * length + '"')

    def test_the_place_is_its_first_quote(self):
        self.assert_answer([2, 4], read, '"a"&""')
        self.assert_answer([2, 9], read, '1[+0:-0]&"abcdefghijklm"&')

    def test_told_when_the_end_was_found(self):
        self.assert_answer([2, 0], read, '""x')
        self.assert_answer([2, 0], read, '"abcdefghijklm"x')
        self.assert_answer([1, 14], read, '"abcdefghijklm\x7f"')
        self.assert_answer([1, 20], read, '"abcdefghijklm""\x20nop\x1f"')


class WrongNumbers(CallCase):
    def check_number(self, before, behind, good, bad):
        for number in good:
            self.assertEqual(self.ask(read, text(before + number + behind))[0], 0, number)
        for number in bad:
            self.assert_answer([3, len(before)], read, before + number + behind)

    def test_distances(self):
        good = ("0", "1", "9", "10", "59", "60")
        bad = ("61", "69", "99", "00", "01", "09", "100", "000", "060", "600", "1" * 40)
        for before, behind in (("1[+", ":-0]"), ("1[-", ":-0]"), ("1[+0:+", "]"), ('"a"&2[-0:-', "]^")):
            self.check_number(before, behind, good, bad)

    def test_ranks(self):
        good = ("1", "9", "10", "39", "40")
        bad = ("0", "41", "60", "99", "00", "01", "09", "040", "100", "400", "1" * 40)
        for before, behind in (("1[D|L+", ":-0]"), ("1[.|B-", ":-0]"), ("1[+0:'-|.-", "]"), ("3[+0:'+|'-+", "]~")):
            self.check_number(before, behind, good, bad)

    def test_a_number_is_told_ahead_of_what_stands_behind_it(self):
        self.assert_answer([3, 3], read, "1[+61")
        self.assert_answer([3, 3], read, "1[+00x")
        self.assert_answer([3, 3], read, "1[+100:.|.")
        self.assert_answer([3, 6], read, "1[D|L+0")


class EmptyClasses(CallCase):
    def test_told_behind_the_second_class(self):
        for behind in ("", "+1:-0]", "-1:-0]", "+0:-0]", "+41", "x", ":"):
            self.assert_answer([4, 2], read, "1[.|." + behind)

    def test_not_before(self):
        self.assert_answer([1, 3], read, "1[.")
        self.assert_answer([1, 4], read, "1[.|")
        self.assert_answer([1, 4], read, "1[.|x")
        self.assert_answer([1, 3], read, "1[..+1:-0]")

    def test_the_place_is_the_first_one(self):
        self.assert_answer([4, 5], read, "1[+0:.|.-1]")
        self.assert_answer([4, 9], read, "1[D|L+12:.|.-1]")
        self.assert_answer([4, 6], read, '"a"&1[.|.-1:-0]')


class SeventhPiece(CallCase):
    def test_whatever_stands_there(self):
        for six in ("&".join(['"a"'] * 6), "&".join(["1[+0:-0]^"] * 6)):
            self.assertEqual(self.ask(read, text(six))[:2], [0, 6])
            for seventh in ('"a"', "1[+0:-0]", "0", "x", '""', "&", " ", "1[+61", ""):
                self.assert_answer([5, len(six) + 1], read, six + "&" + seventh)

    def test_only_behind_an_and(self):
        six = "&".join(["1[+0:-0]"] * 6)
        self.assert_answer([1, len(six)], read, six + "1[+0:-0]")

    def test_faults_of_earlier_pieces_count(self):
        self.assert_answer([2, 20], read, '"a"&"a"&"a"&"a"&"a"&""&"a"')
        self.assert_answer([1, 0], read, "x" + '&"a"' * 7)


class SeveralFaults(CallCase):
    def test_the_first_one_counts(self):
        self.assert_answer([3, 3], read, '1[+61:.|.+0]&""')
        self.assert_answer([4, 2], read, '1[.|.+0:+61]&""')
        self.assert_answer([2, 0], read, '""&1[+61:.|.+0]')
        self.assert_answer([1, 4], read, "1[+0;+61]")
        self.assert_answer([3, 6], read, "1[+0:+61]x")


if __name__ == "__main__":
    unittest.main()
