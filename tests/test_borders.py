"""Promise 8: borders."""

import re
import unittest

from fieldprograms.desk import borders, place
from tests.helper import CLASS, CLASS_PAIRS, FIELDS, NO_CLASSES, NO_FIELDS, NO_SINGLES, SINGLES, CallCase
from tests.helper import border_places, near_texts, text


class BordersCase(CallCase):
    def assert_borders(self, expected, left, right, field):
        self.assert_answer([0] + expected, borders, left, right, field)

    def assert_no_classes(self, left, right):
        # Also with a text that is no field: -4 comes ahead of -1.
        for field in ("Ada Lovelace", "", "x" * 41, "\x7f"):
            self.assert_answer([-4], borders, left, right, field)


class Examples(BordersCase):
    def test_the_example(self):
        self.assert_borders([1, 5], "U", "L", "Ada Lovelace")


class Found(BordersCase):
    def test_two_classes(self):
        self.assert_borders([3], "A", "B", "Ada Lovelace")
        self.assert_borders([4], "B", "A", "Ada Lovelace")
        self.assert_borders([4], "B", "U", "Ada Lovelace")
        self.assert_borders([2, 5], "L", "D", "ab1cd2")
        self.assert_borders([1, 3], "D", "L", "1a2b")
        self.assert_borders([2], "N", "'-", "a1-b")
        self.assert_borders([3], "'-", "N", "a1-b")

    def test_the_empty_class_on_one_side(self):
        self.assert_borders([0, 4], ".", "U", "Ada Lovelace")
        self.assert_borders([1, 5], "U", ".", "Ada Lovelace")
        self.assert_borders([3, 12], "A", ".", "Ada Lovelace")
        self.assert_borders([0, 4], ".", "A", "Ada Lovelace")
        self.assert_borders([3], ".", "B", "Ada Lovelace")
        self.assert_borders([4], "B", ".", "Ada Lovelace")

    def test_at_the_ends_of_the_text(self):
        self.assert_borders([0], ".", "L", "abc")
        self.assert_borders([3], "L", ".", "abc")
        self.assert_borders([0], ".", "L", "x" * 40)
        self.assert_borders([40], "L", ".", "x" * 40)
        self.assert_borders([0, 3], ".", "D", "12a34")
        self.assert_borders([2, 5], "D", ".", "12a34")

    def test_none_at_all(self):
        for sign in ("D", "L", "U", "A", "N", "B", "'-", "''"):
            self.assert_borders([], sign, sign, "Ada Lovelace")
            self.assert_borders([], sign, sign, "12-'' ab")
        self.assert_borders([], "D", ".", "Ada Lovelace")
        self.assert_borders([], ".", "D", "Ada Lovelace")
        self.assert_borders([], "A", "L", "Ada Lovelace")
        self.assert_borders([], "D", "L", "abc")

    def test_the_empty_text(self):
        for left, right in CLASS_PAIRS:
            self.assert_borders([], left, right, "")

    def test_twenty_borders(self):
        self.assert_borders(list(range(0, 40, 2)), ".", "'-", "-x" * 20)
        self.assert_borders(list(range(1, 40, 2)), "'-", "L", "-x" * 20)
        self.assert_borders(list(range(2, 41, 2)), "L", ".", "-x" * 20)

    def test_a_class_of_one_byte(self):
        for sign in SINGLES:
            other = "-" if sign != "-" else "+"
            field = f"{sign}a{sign}{sign}{other}{sign}"
            self.assert_borders([0, 2, 5], ".", f"'{sign}", field)
            self.assert_borders([1, 4, 6], f"'{sign}", ".", field)
            self.assert_borders([1], f"'{sign}", "L", field)
            self.assert_borders([2], "L", f"'{sign}", field)
            self.assert_borders([4], f"'{sign}", f"'{other}", field)
            self.assert_borders([5], f"'{other}", f"'{sign}", field)

    def test_the_class_of_the_point_is_not_the_empty_class(self):
        self.assert_borders([1, 3], ".", "'.", "a.b.c")
        self.assert_borders([2, 4], "'.", ".", "a.b.c")
        self.assert_borders([], "'.", "'.", "a.b.c")

    def test_members_of_classes(self):
        members = {"D": (48, 57), "L": (97, 122), "U": (65, 90), "B": (32, 32)}
        for byte in range(32, 127):
            inside = {sign for sign, (low, high) in members.items() if low <= byte <= high}
            inside |= {"A"} if inside & {"L", "U"} else set()
            inside |= {"N"} if inside & {"A", "D"} else set()
            for sign in "DLUANB":
                self.assert_borders([0] if sign in inside else [], ".", sign, [byte])
                self.assert_borders([1] if sign in inside else [], sign, ".", [byte])

    def test_every_pair_of_classes(self):
        for left, right in CLASS_PAIRS:
            for field in FIELDS:
                answer = borders(text(left), text(right), text(field))
                self.assertEqual(answer, [0] + border_places(left, right, field), (left, right, field))

    def test_the_places_at_which_positions_stand(self):
        for left, right in CLASS_PAIRS:
            places = borders(text(left), text(right), text(" x  Y1 22 "))[1:]
            for rank, expected in enumerate(places, start=1):
                self.assertEqual(place(text(f"{left}|{right}+{rank}"), text(" x  Y1 22 ")), [0, expected])


class NoClasses(BordersCase):
    def test_on_the_left(self):
        for wrong in NO_CLASSES:
            self.assert_no_classes(wrong, "L")
            self.assert_no_classes(wrong, ".")

    def test_on_the_right(self):
        for wrong in NO_CLASSES:
            self.assert_no_classes("L", wrong)
            self.assert_no_classes(".", wrong)

    def test_on_both(self):
        for wrong in NO_CLASSES:
            self.assert_no_classes(wrong, wrong)
        self.assert_no_classes("", "x")
        self.assert_no_classes("'", "-")

    def test_two_empty_classes(self):
        self.assert_no_classes(".", ".")

    def test_a_byte_that_is_not_allowed(self):
        for byte in NO_SINGLES:
            self.assert_no_classes([39, byte], "L")
            self.assert_no_classes("L", [39, byte])

    def test_every_single_byte(self):
        for byte in range(256):
            expected = [0] if chr(byte) in "DLUANB" else [-4]
            self.assert_answer(expected, borders, [byte], ".", "")
            self.assert_answer(expected, borders, ".", [byte], "")
            self.assert_answer(expected if byte != 46 else [0], borders, [byte], "L", "")

    def test_classes_are_told_from_other_texts(self):
        found = {True: 0, False: 0}
        for sign in ("D", ".", "'-", "''", "'|"):
            for near in near_texts(sign):
                is_class = re.fullmatch(CLASS, near) is not None
                self.assertEqual(borders(text(near), text("L"), [])[0] == 0, is_class, near)
                self.assertEqual(borders(text("L"), text(near), [31]), [-1] if is_class else [-4], near)
                found[is_class] += 1
        self.assertGreater(min(found.values()), 50)


class NoFields(BordersCase):
    def test_refused(self):
        for field in NO_FIELDS:
            self.assert_answer([-1], borders, "U", "L", field)
            self.assert_answer([-1], borders, ".", "'-", field)
            self.assert_answer([-1], borders, "D", ".", field)

    def test_every_byte(self):
        for byte in range(256):
            expected = [0, 1] if 32 <= byte <= 126 else [-1]
            self.assert_answer(expected, borders, "L", "'-", text("a-") + [byte])


class NothingKept(BordersCase):
    def test_calls_between_do_not_matter(self):
        for other in (("U", "L", ""), ("", "", ""), (".", ".", "a"), ("D", ".", "\x1f"), (".", "U", "Ada Lovelace")):
            self.ask(borders, *[text(letters) for letters in other])
            self.assert_borders([1, 5], "U", "L", "Ada Lovelace")

    def test_the_texts_are_as_they_were(self):
        left, right, field = text("'-"), text("."), text("-a-")
        borders(left, right, field)
        self.assertEqual((left, right, field), (text("'-"), text("."), text("-a-")))

    def test_one_list_for_all(self):
        sign = text("U")
        self.assertEqual(borders(sign, sign, sign), [0])
        self.assertEqual(sign, text("U"))


if __name__ == "__main__":
    unittest.main()
