"""Promise 7: place."""

import re
import unittest

from fieldprograms.desk import place, run
from tests.helper import CLASS_PAIRS, FIELDS, NO_FIELDS, POSITION, CallCase, border_places, near_texts, record, text

NO_NUMBERS = ("00", "01", "09", "000", "010", "040", "100", "600", "1" * 40)


class PlaceCase(CallCase):
    def assert_place(self, expected, position, field):
        self.assert_answer([0, expected], place, position, field)

    def assert_nowhere(self, position, field):
        self.assert_answer([1], place, position, field)

    def assert_no_position(self, *positions):
        # Also with a text that is no field: -4 comes ahead of -1.
        for position in positions:
            for field in ("Ada Lovelace", "", "x" * 41, "\x1f"):
                self.assert_answer([-4], place, position, field)


class Examples(PlaceCase):
    def test_the_example(self):
        self.assert_place(12, "A|.-1", "Ada Lovelace")


class EndPositions(PlaceCase):
    def test_from_the_left(self):
        for distance in range(61):
            for length in (0, 1, 2, 12, 39, 40):
                expected = [0, distance] if distance <= length else [1]
                self.assert_answer(expected, place, f"+{distance}", "x" * length)

    def test_from_the_right(self):
        for distance in range(61):
            for length in (0, 1, 2, 12, 39, 40):
                expected = [0, length - distance] if distance <= length else [1]
                self.assert_answer(expected, place, f"-{distance}", "x" * length)

    def test_the_edges(self):
        self.assert_place(0, "+0", "")
        self.assert_place(0, "-0", "")
        self.assert_nowhere("+1", "")
        self.assert_nowhere("-1", "")
        self.assert_place(0, "+0", "x" * 40)
        self.assert_place(40, "-0", "x" * 40)
        self.assert_place(40, "+40", "x" * 40)
        self.assert_place(0, "-40", "x" * 40)
        self.assert_nowhere("+40", "")
        self.assert_nowhere("-40", "")
        self.assert_nowhere("+41", "x" * 40)
        self.assert_nowhere("-41", "x" * 40)
        self.assert_nowhere("+60", "x" * 40)
        self.assert_nowhere("-60", "x" * 40)


class BorderPositions(PlaceCase):
    def test_from_the_left(self):
        self.assert_place(0, ".|U+1", "Ada Lovelace")
        self.assert_place(4, ".|U+2", "Ada Lovelace")
        self.assert_nowhere(".|U+3", "Ada Lovelace")
        self.assert_place(1, "U|L+1", "Ada Lovelace")
        self.assert_place(5, "U|L+2", "Ada Lovelace")
        self.assert_nowhere("U|L+3", "Ada Lovelace")

    def test_from_the_right(self):
        self.assert_place(4, ".|U-1", "Ada Lovelace")
        self.assert_place(0, ".|U-2", "Ada Lovelace")
        self.assert_nowhere(".|U-3", "Ada Lovelace")
        self.assert_place(12, "L|.-1", "Ada Lovelace")
        self.assert_place(3, "L|.-2", "Ada Lovelace")
        self.assert_nowhere("L|.-3", "Ada Lovelace")

    def test_no_border_at_all(self):
        for position in ("D|.+1", ".|D-1", "A|L+1", "'.|'.-1", "B|B+1", "D|L+40", "D|L-40"):
            self.assert_nowhere(position, "Ada Lovelace")
        for left, right in CLASS_PAIRS:
            self.assert_nowhere(f"{left}|{right}+1", "")
            self.assert_nowhere(f"{left}|{right}-1", "")

    def test_twenty_borders(self):
        self.assert_place(0, ".|'-+1", "-x" * 20)
        self.assert_place(38, ".|'-+20", "-x" * 20)
        self.assert_nowhere(".|'-+21", "-x" * 20)
        self.assert_nowhere(".|'-+40", "-x" * 20)
        self.assert_place(38, ".|'--1", "-x" * 20)
        self.assert_place(0, ".|'--20", "-x" * 20)
        self.assert_nowhere(".|'--21", "-x" * 20)
        self.assert_nowhere(".|'--40", "-x" * 20)

    def test_every_pair_of_classes(self):
        for left, right in CLASS_PAIRS:
            for field in FIELDS:
                places = border_places(left, right, field)
                for rank in range(1, len(places) + 1):
                    for sign, expected in (("+", places[rank - 1]), ("-", places[-rank])):
                        answer = place(text(f"{left}|{right}{sign}{rank}"), text(field))
                        self.assertEqual(answer, [0, expected], (left, right, sign, rank, field))
                self.assertEqual(place(text(f"{left}|{right}+{len(places) + 1}"), text(field)), [1])
                self.assertEqual(place(text(f"{left}|{right}-{len(places) + 1}"), text(field)), [1])

    def test_the_same_place_as_in_a_part(self):
        for position in ("+3", "-3", "U|L+2", "B|.-1", "+13", "D|L+1"):
            answer = place(text(position), text("Ada Lovelace"))
            given = run(text(f"1[+0:{position}]"), record("Ada Lovelace"))
            self.assertEqual(answer, [0, len(given) - 1] if given[0] == 0 else [1])


class NoPositions(PlaceCase):
    def test_the_empty_text(self):
        self.assert_no_position("", [])

    def test_other_texts(self):
        self.assert_no_position("x", "0", "12", " ", "+", "-", "+x", "-x", "|", "'", ":", "[+0:-0]", "1[+0:-0]", '"a"',
                                "++0", "+-0", "+ 0", " +0", "\x00", "\xff", [255] * 10000)

    def test_parts_of_positions(self):
        self.assert_no_position("A", ".", "'-", "A|", "|A", ".|", "A|L", "A|.", "A|L+", "A|L-", "A|L1", "|+1", "A|+1",
                                "|L+1", "AL+1", "A|L|U+1", "C|L+1", "A|c+1", "A+1", "'|+1", "A|'+1")

    def test_classes_of_bytes_that_are_not_allowed(self):
        for byte in (0, 31, 32, 48, 57, 65, 90, 97, 122, 127, 128, 255):
            self.assert_no_position(text("'") + [byte] + text("|.+1"), text(".|'") + [byte] + text("+1"))

    def test_anything_behind_a_position(self):
        for position in ("+0", "-12", "A|L+1", ".|'--40"):
            for behind in (" ", "x", ":", "]", "+", "+0", "-0", "|", "^", "&", "\x00", "\n", ":" + position):
                self.assert_no_position(position + behind)

    def test_numbers(self):
        for number in NO_NUMBERS + ("61", "69", "99"):
            self.assert_no_position(f"+{number}", f"-{number}")
        for number in NO_NUMBERS + ("0", "41", "60", "99"):
            self.assert_no_position(f"A|L+{number}", f"'-|.-{number}")

    def test_two_empty_classes(self):
        self.assert_no_position(".|.", ".|.+", ".|.+1", ".|.-1", ".|.+40", ".|.+0", ".|.+1x")
        self.assert_nowhere("'.|.+1", "Ada")
        self.assert_nowhere(".|'.+1", "Ada")

    def test_long_texts(self):
        self.assert_no_position("+" + "1" * 999, "+" + "1" * 1000, "+" + "0" * 9999, "A|L+" + "9" * 9996)
        self.assert_no_position("+1" + " " * 9998, "A|L+1" * 2000, "'" * 10000, "." * 10000, "-" * 10000)

    def test_positions_are_told_from_other_texts(self):
        positions = ("+0", "-60", "+59", "A|L+1", ".|B-40", "'||''+39", "'.|.-9", "D|'\"-10")
        found = {True: 0, False: 0}
        for position in positions:
            for near in near_texts(position):
                is_position = re.fullmatch(POSITION, near) is not None
                self.assertEqual(place(text(near), text("Ada"))[0] in (0, 1), is_position, near)
                self.assertEqual(place(text(near), [31]), [-1] if is_position else [-4], near)
                found[is_position] += 1
        self.assertGreater(min(found.values()), 100)


class NoFields(PlaceCase):
    def test_refused(self):
        for position in ("+0", "-60", "A|L+1", ".|B-40"):
            for field in NO_FIELDS:
                self.assert_answer([-1], place, position, field)

    def test_how_long_it_is(self):
        self.assert_place(40, "L|.+1", "x" * 40)
        self.assert_answer([-1], place, "L|.+1", "x" * 41)
        self.assert_answer([-1], place, "+41", "x" * 41)

    def test_every_byte(self):
        for byte in range(256):
            is_allowed = 32 <= byte <= 126
            self.assert_answer([0, 1] if is_allowed else [-1], place, "-0", [byte])
            self.assert_answer([0, 40] if is_allowed else [-1], place, "-0", [97] * 39 + [byte])


class NothingKept(PlaceCase):
    def test_calls_between_do_not_matter(self):
        for other in (("+0", ""), ("", ""), ("+1", "\x1f"), ("A|.+1", "x"), ("A|.-1", "Ada"), ("+61", "x" * 41)):
            self.ask(place, text(other[0]), text(other[1]))
            self.assert_place(12, "A|.-1", "Ada Lovelace")

    def test_the_texts_are_as_they_were(self):
        position, field = text("A|.-1"), text("Ada Lovelace")
        place(position, field)
        self.assertEqual((position, field), (text("A|.-1"), text("Ada Lovelace")))

    def test_one_list_for_both(self):
        both = text("'||.+1")
        self.assertEqual(place(both, both), [0, 3])
        self.assertEqual(both, text("'||.+1"))


if __name__ == "__main__":
    unittest.main()
