"""Promise 9: runs."""

import re
import unittest

from fieldprograms.desk import borders, runs
from tests.helper import CLASS, CLASS_PATTERNS, FIELDS, NO_CLASSES, NO_FIELDS, NO_SINGLES, SINGLES, CallCase
from tests.helper import near_texts, text

NAMED = ("D", "L", "U", "A", "N", "B")


def found_runs(sign, field):
    """The runs as a pattern has them; a second way to find them."""
    return [place for found in re.finditer(CLASS_PATTERNS[sign] + "+", field) for place in found.span()]


class RunsCase(CallCase):
    def assert_runs(self, expected, sign, field):
        self.assert_answer([0] + expected, runs, sign, field)

    def assert_no_class(self, *wrong):
        # Also with a text that is no field: -4 comes ahead of -1.
        for class_text in wrong:
            for field in ("Ada Lovelace", "", "x" * 41, "\x1f", "\x7f"):
                self.assert_answer([-4], runs, class_text, field)


class Examples(RunsCase):
    def test_the_example(self):
        self.assert_answer([0, 0, 2, 3, 4], runs, "N", "a1-b")


class Found(RunsCase):
    def test_every_named_class(self):
        field = "ab1 Cd-22  EF"
        self.assert_runs([2, 3, 7, 9], "D", field)
        self.assert_runs([0, 2, 5, 6], "L", field)
        self.assert_runs([4, 5, 11, 13], "U", field)
        self.assert_runs([0, 2, 4, 6, 11, 13], "A", field)
        self.assert_runs([0, 3, 4, 6, 7, 9, 11, 13], "N", field)
        self.assert_runs([3, 4, 9, 11], "B", field)
        self.assert_runs([6, 7], "'-", field)

    def test_every_class_of_one_byte(self):
        for sign in SINGLES:
            other = "-" if sign != "-" else "+"
            self.assert_runs([0, 1, 2, 4, 5, 6], f"'{sign}", f"{sign}a{sign}{sign}{other}{sign}")
            self.assert_runs([4, 5], f"'{other}", f"{sign}a{sign}{sign}{other}{sign}")
            self.assert_runs([], f"'{sign}", f"a{other}1 B")

    def test_none_at_all(self):
        self.assert_runs([], "D", "Ada Lovelace")
        self.assert_runs([], "B", "Ada")
        self.assert_runs([], "L", "ADA-1")
        self.assert_runs([], "'-", "+++")
        self.assert_runs([], "N", "-" * 40)

    def test_one(self):
        self.assert_runs([1, 2], "B", "a b")
        self.assert_runs([2, 4], "D", "ab12cd")
        self.assert_runs([3, 4], "B", "Ada Lovelace")

    def test_several(self):
        self.assert_runs([0, 3, 4, 12], "A", "Ada Lovelace")
        self.assert_runs([1, 3, 5, 12], "L", "Ada Lovelace")
        self.assert_runs([1, 2, 4, 6, 9, 12], "D", "a1 b22   333c")

    def test_from_the_beginning(self):
        self.assert_runs([0, 2], "D", "12a")
        self.assert_runs([0, 1], "B", " a")

    def test_to_the_end(self):
        self.assert_runs([1, 3], "D", "a12")
        self.assert_runs([1, 2], "B", "a ")

    def test_the_whole_text(self):
        self.assert_runs([0, 3], "D", "123")
        self.assert_runs([0, 1], "'-", "-")
        self.assert_runs([0, 40], "L", "x" * 40)
        self.assert_runs([0, 40], "B", " " * 40)

    def test_one_byte_each(self):
        self.assert_runs([0, 1, 2, 3, 4, 5], "L", "a-b-c")
        self.assert_runs([1, 2, 3, 4], "'-", "a-b-c")
        self.assert_runs([0, 1, 4, 5], "U", "Ada Lovelace")

    def test_bytes_of_one_class_side_by_side_are_one_run(self):
        self.assert_runs([0, 3], "N", "a1B")
        self.assert_runs([0, 2], "A", "aB")
        self.assert_runs([0, 1], "L", "aB")

    def test_the_empty_text(self):
        for sign in CLASS_PATTERNS:
            self.assert_runs([], sign, "")

    def test_forty_bytes(self):
        self.assert_runs(list(range(40)), "'-", "-x" * 20)
        self.assert_runs(list(range(1, 41)), "L", "-x" * 20)
        self.assert_runs([39, 40], "D", "x" * 39 + "7")
        self.assert_runs([0, 1], "D", "7" + "x" * 39)

    def test_the_class_of_the_point_is_not_the_empty_class(self):
        self.assert_runs([1, 2, 3, 4], "'.", "a.b.c")
        self.assert_runs([], "'.", "")

    def test_members_of_classes(self):
        for byte in range(32, 127):
            for sign, pattern in CLASS_PATTERNS.items():
                inside = re.fullmatch(pattern, chr(byte)) is not None
                self.assert_runs([0, 1] if inside else [], sign, [byte])

    def test_every_class_in_every_field(self):
        for sign in CLASS_PATTERNS:
            for field in FIELDS:
                self.assertEqual(runs(text(sign), text(field)), [0] + found_runs(sign, field), (sign, field))

    def test_they_begin_and_end_where_the_class_does(self):
        for sign in CLASS_PATTERNS:
            for field in FIELDS:
                places = runs(text(sign), text(field))[1:]
                self.assertEqual(places[0::2], borders(text("."), text(sign), text(field))[1:])
                self.assertEqual(places[1::2], borders(text(sign), text("."), text(field))[1:])


class NoClass(RunsCase):
    def test_the_empty_class(self):
        self.assert_no_class(".")

    def test_the_empty_text(self):
        self.assert_no_class("", [])

    def test_other_texts(self):
        self.assert_no_class(*NO_CLASSES)

    def test_anything_behind_a_class(self):
        for sign in CLASS_PATTERNS:
            for behind in (" ", "D", ".", "'", "''", "|", "|.", "|.+1", "+1", "\x00", "\n", sign):
                self.assert_no_class(sign + behind)

    def test_a_byte_that_is_not_allowed(self):
        self.assert_no_class("'")
        for byte in NO_SINGLES:
            self.assert_no_class([39, byte])

    def test_long_texts(self):
        for length in (1000, 1001, 10000):
            for sign in ("D", "'", ".", " ", "\x00", "\xff"):
                self.assert_no_class(sign * length)
            self.assert_no_class("'-" + " " * (length - 2), "D" + "x" * (length - 1))

    def test_every_single_byte(self):
        for byte in range(256):
            self.assert_answer([0] if chr(byte) in NAMED else [-4], runs, [byte], "")

    def test_classes_are_told_from_other_texts(self):
        found = {True: 0, False: 0}
        for sign in ("D", ".", "'-", "''", "'|", "'."):
            for near in near_texts(sign):
                is_class = near != "." and re.fullmatch(CLASS, near) is not None
                self.assertEqual(runs(text(near), []), [0] if is_class else [-4], near)
                self.assertEqual(runs(text(near), [31]), [-1] if is_class else [-4], near)
                found[is_class] += 1
        self.assertGreater(min(found.values()), 50)


class NoFields(RunsCase):
    def test_refused(self):
        for field in NO_FIELDS:
            for sign in NAMED + ("'-", "''"):
                self.assert_answer([-1], runs, sign, field)

    def test_how_long_it_is(self):
        self.assert_runs([0, 40], "D", "7" * 40)
        self.assert_answer([-1], runs, "D", "7" * 41)
        self.assert_answer([-1], runs, "L", "7" * 41)

    def test_every_byte(self):
        for byte in range(256):
            expected = [0, 1, 2] if 32 <= byte <= 126 and byte != 45 else [0, 1, 3] if byte == 45 else [-1]
            self.assert_answer(expected, runs, "'-", text("a-") + [byte])


class NothingKept(RunsCase):
    def test_calls_between_do_not_matter(self):
        for other in (("N", ""), ("", ""), (".", "a"), ("N", "\x1f"), ("'-", "a1-b"), ("D", "x" * 41)):
            self.ask(runs, *[text(letters) for letters in other])
            self.assert_runs([0, 2, 3, 4], "N", "a1-b")

    def test_the_texts_are_as_they_were(self):
        sign, field = text("'-"), text("-a-")
        runs(sign, field)
        self.assertEqual((sign, field), (text("'-"), text("-a-")))

    def test_one_list_for_both(self):
        both = text("''")
        self.assertEqual(runs(both, both), [0, 0, 2])
        self.assertEqual(both, text("''"))

    def test_by_its_names(self):
        self.assertEqual(runs(class_text=text("N"), t=text("a1-b")), [0, 0, 2, 3, 4])


if __name__ == "__main__":
    unittest.main()
