"""Promise 2: run."""

import unittest

from fieldprograms.desk import run
from tests.helper import CLASS_PAIRS, EXAMPLE, FIELDS, CallCase, border_places, record, text


class RunCase(CallCase):
    def assert_gives(self, expected, program, *fields):
        self.assert_answer([0] + text(expected), run, program, record(*fields))

    def assert_gives_nothing(self, number, program, *fields):
        self.assert_answer([1, number], run, program, record(*fields))


class Examples(RunCase):
    def test_the_example(self):
        self.assert_gives("LOVELACE, A.", EXAMPLE, "Ada Lovelace")
        self.assert_gives_nothing(0, EXAMPLE, "Ada")


class EndPositions(RunCase):
    def test_from_the_left(self):
        self.assert_gives("abcde", "1[+0:-0]", "abcde")
        self.assert_gives("cde", "1[+2:-0]", "abcde")
        self.assert_gives("ab", "1[+0:+2]", "abcde")
        self.assert_gives("abcde", "1[+0:+5]", "abcde")
        self.assert_gives_nothing(0, "1[+0:+6]", "abcde")
        self.assert_gives_nothing(0, "1[+6:-0]", "abcde")
        self.assert_gives("x" * 40, "1[+0:+40]", "x" * 40)
        self.assert_gives_nothing(0, "1[+0:+41]", "x" * 40)
        self.assert_gives_nothing(0, "1[+0:+60]", "x" * 40)

    def test_from_the_right(self):
        self.assert_gives("de", "1[-2:-0]", "abcde")
        self.assert_gives("abc", "1[+0:-2]", "abcde")
        self.assert_gives("abcde", "1[-5:-0]", "abcde")
        self.assert_gives_nothing(0, "1[-6:-0]", "abcde")
        self.assert_gives_nothing(0, "1[+0:-6]", "abcde")
        self.assert_gives_nothing(0, "1[-60:-0]", "x" * 40)

    def test_the_second_place_has_to_be_above_the_first(self):
        self.assert_gives("c", "1[+2:+3]", "abcde")
        self.assert_gives_nothing(0, "1[+2:+2]", "abcde")
        self.assert_gives_nothing(0, "1[+3:+2]", "abcde")
        self.assert_gives_nothing(0, "1[-0:+0]", "abcde")
        self.assert_gives_nothing(0, "1[+2:-3]", "abcde")
        self.assert_gives_nothing(0, "1[D|.+1:.|D+1]", "a12b")

    def test_the_empty_field(self):
        self.assert_gives_nothing(0, "1[+0:-0]", "")
        self.assert_gives_nothing(0, "1[+0:+1]", "")
        self.assert_gives_nothing(0, "1[D|.+1:-0]", "")


class BorderPositions(RunCase):
    def test_from_the_left_and_from_the_right(self):
        self.assert_gives("Lovelace", "1[.|U-1:-0]", "Ada Lovelace")
        self.assert_gives("Ada Lovelace", "1[.|U-2:-0]", "Ada Lovelace")
        self.assert_gives("Ada", "1[+0:A|.+1]", "Ada Lovelace")
        self.assert_gives("Ada Lovelace", "1[+0:A|.+2]", "Ada Lovelace")
        self.assert_gives("A", "1[+0:U|L+1]", "Ada Lovelace")
        self.assert_gives("Ada L", "1[+0:U|L-1]", "Ada Lovelace")
        self.assert_gives("22", "1[.|D+2:D|.+2]", "a1 b22 c333")
        self.assert_gives("333", "1[.|D-1:D|.-1]", "a1 b22 c333")

    def test_too_few_borders(self):
        self.assert_gives_nothing(0, "1[.|U+3:-0]", "Ada Lovelace")
        self.assert_gives_nothing(0, "1[.|U-3:-0]", "Ada Lovelace")
        self.assert_gives_nothing(0, "1[+0:D|.+1]", "Ada Lovelace")
        self.assert_gives_nothing(0, "1[.|B+40:-0]", "Ada Lovelace")
        self.assert_gives_nothing(0, "1[A|L+1:-0]", "Ada Lovelace")

    def test_at_the_ends_of_the_text(self):
        self.assert_gives("12a34", "1[.|D+1:D|.-1]", "12a34")
        self.assert_gives("34", "1[.|D+2:-0]", "12a34")
        self.assert_gives("12", "1[+0:D|.+1]", "12a34")
        self.assert_gives_nothing(0, "1[D|A+2:-0]", "12a34")

    def test_twenty_borders(self):
        self.assert_gives("-x", "1[.|'-+20:-0]", "-x" * 20)
        self.assert_gives("-x" * 20, "1[.|'--20:-0]", "-x" * 20)
        self.assert_gives_nothing(0, "1[.|'-+21:-0]", "-x" * 20)

    def test_every_pair_of_classes(self):
        for left, right in CLASS_PAIRS:
            for field in FIELDS:
                self.check_borders(left, right, field)

    def check_borders(self, left, right, field):
        places = border_places(left, right, field)
        for rank in range(1, len(places) + 2):
            here = places[rank - 1] if rank <= len(places) else None
            mirrored = places[-rank] if rank <= len(places) else None
            for sign, place in (("+", here), ("-", mirrored)):
                position = f"{left}|{right}{sign}{rank}"
                ahead = field[:place] if place is not None else ""
                behind = field[place:] if place is not None else ""
                for program, part in ((f"1[+0:{position}]", ahead), (f"1[{position}:-0]", behind)):
                    answer = run(text(program), record(field))
                    self.assertEqual(answer, [0] + text(part) if part else [1, 0], (program, field))


class Classes(RunCase):
    def members(self, sign):
        """The bytes of a class, each asked for in a field of its own."""
        program = text(f"1[.|{sign}+1:-0]")
        return [byte for byte in range(32, 127) if run(program, record([byte])) == [0, byte]]

    def test_named_classes(self):
        digits, small, capitals = text("0123456789"), list(range(97, 123)), list(range(65, 91))
        self.assertEqual(self.members("D"), digits)
        self.assertEqual(self.members("L"), small)
        self.assertEqual(self.members("U"), capitals)
        self.assertEqual(self.members("A"), capitals + small)
        self.assertEqual(self.members("N"), digits + capitals + small)
        self.assertEqual(self.members("B"), [32])

    def test_classes_of_one_byte(self):
        for byte in range(33, 127):
            if not chr(byte).isalnum():
                self.assertEqual(self.members("'" + chr(byte)), [byte])


class Parts(RunCase):
    def test_fields(self):
        fields = ("one", "two", "three", "four")
        for number in range(1, 5):
            self.assert_gives(fields[number - 1], f"{number}[+0:-0]", *fields)

    def test_a_field_that_the_record_does_not_have(self):
        self.assert_gives_nothing(0, "2[+0:-0]", "one")
        self.assert_gives_nothing(0, "4[+0:-0]", "one", "two", "three")
        self.assert_gives_nothing(1, '"a"&3[+0:-0]', "one", "two")

    def test_turned(self):
        field = "aZ [`{@] yB-1~x"
        self.assert_gives("aZ [`{@] yB-1~x", "1[+0:-0]", field)
        self.assert_gives("AZ [`{@] YB-1~X", "1[+0:-0]^", field)
        self.assert_gives("az [`{@] yb-1~x", "1[+0:-0]_", field)
        self.assert_gives("Az [`{@] yb-1~x", "1[+0:-0]~", field)

    def test_the_first_byte_is_the_first_of_the_part(self):
        self.assert_gives("Dalovel", "1[+1:+3]~&1[+4:+9]_", "Ada Lovelace")
        self.assert_gives("1ab", "1[+0:-0]~", "1AB")
        self.assert_gives("A", "1[+0:-0]~", "a")
        self.assert_gives("A", "1[+0:-0]~", "A")

    def test_every_byte_turned(self):
        for byte in range(32, 127):
            sign = chr(byte)
            for turn, turned in (("^", sign.upper()), ("_", sign.lower()), ("~", sign.upper()), ("", sign)):
                self.assert_gives(turned, f"1[+0:-0]{turn}", sign)
            self.assert_gives("A" + sign.lower(), "1[+0:-0]~", "a" + sign)


class Programs(RunCase):
    def test_the_empty_program(self):
        self.assert_gives("", "0", "Ada")
        self.assert_gives("", "0", "")

    def test_constants(self):
        self.assert_gives("a", '"a"', "")
        self.assert_gives(' "~', '" ""~"', "x")
        self.assert_gives('"' * 12, '"' + '""' * 12 + '"', "x")
        self.assert_gives("1[+0:-0]&", '"1[+0:-0]&"', "x")

    def test_several_pieces(self):
        self.assert_gives("b-A-b", '2[+0:-0]_&"-"&1[+0:-0]^&"-"&2[+0:-0]_', "a", "B")
        self.assert_gives("x" * 240, "&".join(["1[+0:-0]"] * 6), "x" * 40)

    def test_the_first_piece_that_gives_nothing(self):
        self.assert_gives_nothing(0, '1[+9:-0]&"a"&2[+0:-0]', "abc")
        self.assert_gives_nothing(1, '"a"&2[+0:-0]&1[+9:-0]', "abc")
        self.assert_gives_nothing(2, '"a"&1[+0:-0]&1[.|D+1:-0]', "abc")
        self.assert_gives_nothing(5, '"a"&"a"&"a"&"a"&"a"&1[+1:+1]', "abc")


class Records(RunCase):
    def test_how_many_fields(self):
        self.assert_answer([-1], run, '"a"', [])
        for count in range(1, 5):
            self.assert_gives("a", '"a"', *(["x"] * count))
            self.assert_gives("a", '"a"', *([""] * count))
        for count in (5, 6, 100):
            self.assert_answer([-1], run, '"a"', record(*(["x"] * count)))
            self.assert_answer([-1], run, '"a"', record(*([""] * count)))

    def test_how_long_a_field_is(self):
        self.assert_gives("x" * 40, "1[+0:-0]", "x" * 40)
        self.assert_answer([-1], run, '"a"', record("x" * 41))
        self.assert_answer([-1], run, '"a"', record("x", "", "x" * 41))
        self.assert_answer([-1], run, '"a"', record("x" * 10000))

    def test_bytes_of_fields(self):
        for byte in range(256):
            expected = [0, byte] if 32 <= byte <= 126 else [-1]
            self.assert_answer(expected, run, "1[+0:-0]", record([byte]))
        self.assert_answer([-1], run, '"a"', record("x", "y", "z", [97, 31]))
        self.assert_answer([-1], run, '"a"', record([97] * 39 + [127], "x"))

    def test_all_fields_are_asked_of_whatever_the_program_needs(self):
        self.assert_answer([-1], run, "0", record("x", [10]))
        self.assert_answer([-1], run, "0", [])
        self.assert_answer([-1], run, "2[+0:-0]", record([10]))

    def test_the_program_is_read_first(self):
        for wrong in ([], record("x" * 41), record([31]), record(*["x"] * 5)):
            self.assert_answer([1, 7], run, "1[+0:-0", wrong)
            self.assert_answer([2, 0], run, '""', wrong)
            self.assert_answer([3, 3], run, "1[+61:-0]", wrong)
            self.assert_answer([4, 2], run, "1[.|.+1:-0]", wrong)
            self.assert_answer([5, 24], run, "&".join(['"a"'] * 7), wrong)
            self.assert_answer([-5], run, "x" * 1001, wrong)


class FaultsOfTheProgram(RunCase):
    def test_faults(self):
        self.assert_answer([1, 0], run, "", record("x"))
        self.assert_answer([1, 1], run, "00", record("x"))
        self.assert_answer([2, 4], run, '"a"&""', record("x"))
        self.assert_answer([3, 3], run, "1[+61:-0]", record("x"))
        self.assert_answer([4, 5], run, "1[+9:.|.+1]", record("x"))
        self.assert_answer([5, 54], run, "&".join(["1[+0:-0]"] * 7), record("x"))
        self.assert_answer([2, 0], run, '"' + "a" * 998 + '"', record("x"))
        self.assert_answer([-5], run, '"' + "a" * 999 + '"', record("x"))


class NothingKept(RunCase):
    def test_calls_between_do_not_matter(self):
        for other in ([text("0"), record("x")], [text('"b"'), []], [text("2[+0:-0]"), record("x")], [[], []],
                      [text("1[+0:-0]^"), record("ada lovelace")]):
            self.ask(run, *other)
            self.assert_gives("LOVELACE, A.", EXAMPLE, "Ada Lovelace")

    def test_program_and_record_are_as_they_were(self):
        program, fields = text("1[+0:-0]^&1[+0:+1]_&1[-1:-0]~"), record("aBc", "d")
        run(program, fields)
        self.assertEqual(program, text("1[+0:-0]^&1[+0:+1]_&1[-1:-0]~"))
        self.assertEqual(fields, record("aBc", "d"))


if __name__ == "__main__":
    unittest.main()
