"""What the document says of the whole program: its example, of all calls alike, and the interface."""

import builtins
import contextlib
import inspect
import io
import pathlib
import subprocess
import sys
import unittest
from unittest import mock

from fieldprograms import desk
from fieldprograms.desk import borders, compare, cost, fields, join, moved, place, read, run, runs, trace
from tests.helper import EXAMPLE, FAULTS, NO_CLASSES, NO_FIELDS, SIX, THOUSAND_BYTES, TOO_LONG, CallCase
from tests.helper import as_second, record, text

ROOT = pathlib.Path(__file__).resolve().parent.parent
ADA = record("Ada Lovelace")
NO_RECORDS = ([], record(*["x"] * 5), [0] * 20000, record("x" * 41), record("x", [31]), record([127], "x"),
              record("x" * 10000, "x" * 9998))

INTERFACE = {
    "read": ["program"], "run": ["program", "record"], "trace": ["program", "record"], "cost": ["program"],
    "compare": ["p", "q"], "join": ["p", "q"], "place": ["position", "t"], "borders": ["l", "r", "t"],
    "runs": ["class_text", "t"], "fields": ["program"], "moved": ["a", "b", "c", "d", "program"],
}

# Calls of every kind with their answers, told by letters where texts are handed in.
LINE = (
    ([0, 4, 29], read, EXAMPLE),
    ([0] + text("LOVELACE, A."), run, EXAMPLE, ADA),
    ([1, 0], run, EXAMPLE, record("Ada")),
    ([0, 0, 8, 1, 4, 12, 8, 10, 0, 0, 0, 10, 11, 1, 0, 1, 11, 12, 0, 0, 0], trace, EXAMPLE, ADA),
    ([1, 0], trace, EXAMPLE, record("Ada")),
    ([0, 29, 9, 7, 8, 5], cost, EXAMPLE),
    ([0, 1], compare, "1[+0:-0]", '"ab"'),
    ([0, 2], compare, '"ab"', "1[+0:-0]"),
    ([0, 0], compare, EXAMPLE, EXAMPLE),
    ([0] + text('1[+0:+1]&"."'), join, "1[+0:+1]", '"."'),
    ([-3], join, SIX, '"a"'),
    ([0, 12], place, "A|.-1", "Ada Lovelace"),
    ([1], place, "D|.-1", "Ada Lovelace"),
    ([0, 1, 5], borders, "U", "L", "Ada Lovelace"),
    ([-4], borders, ".", ".", "Ada Lovelace"),
    ([0, 0, 2, 3, 4], runs, "N", "a1-b"),
    ([-4], runs, ".", "a1-b"),
    ([0, 1], fields, EXAMPLE),
    ([0] + text("2[+0:-0]"), moved, 2, 1, 3, 4, "1[+0:-0]"),
    ([-2], moved, 2, 1, 3, 0, "1[+0:-0]"),
    ([-5], read, TOO_LONG),
    ([-1], run, "0", []),
    ([25, 24], compare, "0", "&".join(['"a"'] * 7)),
)


def calls_with_a_first_program(program):
    """Every call that reads a program first, with nothing else wrong."""
    return ((read, program), (run, program, ADA), (trace, program, ADA), (cost, program), (compare, program, "0"),
            (join, program, "0"), (fields, program), (moved, 1, 2, 3, 4, program))


def answered(call, *arguments):
    return call(*[text(argument) if isinstance(argument, str) else argument for argument in arguments])


class TheExample(CallCase):
    def test_the_line_of_calls(self):
        for expected, call, *arguments in LINE:
            self.assert_answer(expected, call, *arguments)

    def test_faults(self):
        examples = (("1[+0:-0", [1, 7]), ('""', [2, 0]), ("1[+61:-0]", [3, 3]), ("1[.|.+1:-0]", [4, 2]),
                    ('"a"&', [1, 4]), ("", [1, 0]))
        for program, fault in examples:
            for call, *arguments in calls_with_a_first_program(program):
                self.assert_answer(fault, call, *arguments)


class ReadingAProgram(CallCase):
    def test_every_call_answers_its_faults(self):
        for program, fault in FAULTS:
            for call, *arguments in calls_with_a_first_program(program):
                self.assert_answer(fault, call, *arguments)

    def test_of_a_second_program_20_is_added(self):
        for program, fault in FAULTS:
            self.assert_answer(as_second(fault), compare, EXAMPLE, program)
            self.assert_answer(as_second(fault), join, EXAMPLE, program)

    def test_more_than_1000_bytes(self):
        for call, *arguments in calls_with_a_first_program(THOUSAND_BYTES):
            self.assert_answer([2, 0], call, *arguments)
        for long in (TOO_LONG, "0" * 1001, [255] * 10000):
            for call, *arguments in calls_with_a_first_program(long):
                self.assert_answer([-5], call, *arguments)
            self.assert_answer([-5], compare, EXAMPLE, long)
            self.assert_answer([-5], join, EXAMPLE, long)

    def test_every_call_knows_the_empty_program(self):
        answers = [answered(call, *arguments) for call, *arguments in calls_with_a_first_program("0")]
        self.assertEqual(answers, [[0, 0, 0], [0], [0], [0, 0], [0, 0], [0, 48], [0], [0, 48]])

    def test_the_program_ahead_of_the_record(self):
        for wrong in NO_RECORDS:
            for call in (run, trace):
                for program, fault in FAULTS:
                    self.assert_answer(fault, call, program, wrong)
                self.assert_answer([-5], call, TOO_LONG, wrong)
                for program in ("0", '"a"', "1[+0:-0]", "4[+9:+8]", EXAMPLE, SIX):
                    self.assert_answer([-1], call, program, wrong)


class OneTextForEachProgram(CallCase):
    def test_it_is_written_as_it_was_read(self):
        for piece in ('""""', '" "', "1[+0:-0]", "4[-60:+59]_", "2[.|'|-9:''|D+40]~", "3['.|'.+1:B|U-31]^"):
            for program in (piece, f'"0"&{piece}', f"{piece}&{piece}&{piece}"):
                self.assert_answer([0] + text(program), join, program, "0")
                self.assert_answer([0] + text(program), moved, 1, 2, 3, 4, program)

    def test_programs_of_other_texts_are_others(self):
        programs = ("0", '"0"', '"a"', '"A"', '"a"&"a"', '"a""a"', '"a&a"', "1[+0:-0]", "1[-0:+0]", "2[+0:-0]",
                    "1[+0:-0]^", "1[+0:-0]_", "1[+0:-0]~", "1[A|.+1:-0]", "1[.|A+1:-0]", "1['.|A+1:-0]", EXAMPLE)
        for p in programs:
            for q in programs:
                self.assertEqual(answered(compare, p, q) == [0, 0], p == q, (p, q))


class Sizes(CallCase):
    def test_records_of_20000_numbers(self):
        self.assert_answer([-1], run, "0", [0] * 20000)
        self.assert_answer([-1], trace, "0", [1, 97] * 10000)
        self.assert_answer([-1], run, "0", record([255] * 10000, [0] * 9998))

    def test_texts_of_10000_bytes(self):
        for byte in (0, 32, 34, 39, 43, 46, 48, 49, 68, 97, 255):
            long = [byte] * 10000
            for call, *arguments in calls_with_a_first_program(long):
                self.assert_answer([-5], call, *arguments)
            self.assert_answer([-4], place, long, long)
            self.assert_answer([-4], borders, long, "L", long)
            self.assert_answer([-4], borders, "L", long, long)
            self.assert_answer([-4], runs, long, long)
            self.assert_answer([-1], place, "+0", long)
            self.assert_answer([-1], borders, "D", "L", long)
            self.assert_answer([-1], runs, "D", long)

    def test_the_longest_answers(self):
        parts = "&".join(["1[+0:-0]"] * 6)
        constants = "&".join(['"' + '""' * 12 + '"'] * 6)
        positions = "1['-|'--40:'-|'--40]^"
        self.assertEqual(len(answered(run, parts, record("x" * 40))), 241)
        self.assertEqual(len(answered(trace, parts, record("x" * 40))), 31)
        self.assertEqual(len(answered(cost, parts)), 8)
        self.assertEqual(len(answered(moved, 1, 1, 1, 1, constants)), 162)
        self.assertEqual(answered(moved, 1, 1, 1, 1, "&".join([positions] * 6))[1:], text("&".join([positions] * 6)))
        self.assertEqual(len(answered(borders, ".", "'-", "-x" * 20)), 21)
        self.assertEqual(len(answered(runs, "'-", "-x" * 20)), 41)


class Refusals(CallCase):
    def test_the_one_told_first(self):
        for field in NO_FIELDS:
            for wrong in NO_CLASSES:
                self.assert_answer([-4], borders, wrong, "L", field)
                self.assert_answer([-4], borders, "L", wrong, field)
                self.assert_answer([-4], runs, wrong, field)
            self.assert_answer([-4], borders, ".", ".", field)
            self.assert_answer([-4], runs, ".", field)
            for wrong in ("", "A", "+", "+61", "A|L+0", ".|.+1", "+0 "):
                self.assert_answer([-4], place, wrong, field)
        self.assert_answer([-2], moved, 1, 2, 3, 5, TOO_LONG)
        self.assert_answer([-5], join, SIX, TOO_LONG)

    def test_a_field_is_the_same_for_every_call(self):
        for byte in range(256):
            for content in ([byte], [97] * 39 + [byte], [97] * 40 + [byte]):
                is_field = len(content) <= 40 and 32 <= byte <= 126
                answers = (run(text("0"), record(content)), trace(text("0"), record(content)),
                           place(text("+0"), content), borders(text("'-"), text("B"), content),
                           runs(text("'-"), content))
                for answer in answers:
                    self.assertEqual(answer == [-1], not is_field, content)


class TheInterface(CallCase):
    def test_names_and_arguments(self):
        for name, arguments in INTERFACE.items():
            call = getattr(desk, name)
            self.assertTrue(inspect.isfunction(call), name)
            self.assertEqual(call.__module__, "fieldprograms.desk")
            parameters = inspect.signature(call).parameters
            self.assertEqual(list(parameters), arguments)
            for parameter in parameters.values():
                self.assertIs(parameter.default, inspect.Parameter.empty)

    def test_the_line_asks_every_call(self):
        self.assertEqual({call.__name__ for expected, call, *arguments in LINE}, set(INTERFACE))

    def test_every_argument_by_its_name(self):
        for expected, call, *arguments in LINE:
            values = [text(argument) if isinstance(argument, str) else argument for argument in arguments]
            self.assertEqual(call(**dict(zip(INTERFACE[call.__name__], values))), expected)

    def test_two_hundred_calls_in_several_orders(self):
        for step in (1, 2, 3, 5, 7, 11):
            for number in range(200):
                expected, call, *arguments = LINE[number * step % len(LINE)]
                self.assertEqual(answered(call, *arguments), expected)

    def test_every_call_behind_every_other(self):
        for ignored, earlier, *before in LINE:
            for expected, call, *arguments in LINE:
                answered(earlier, *before).append(-99)
                self.assertEqual(answered(call, *arguments), expected)

    def test_one_list_for_all_texts(self):
        for program in (text('"a"'), text("0"), text("x"), []):
            before = list(program)
            for call in (compare, join):
                self.assertEqual(call(program, program), call(list(program), list(program)))
            self.assertEqual(program, before)

    def test_nothing_is_printed_read_or_imported(self):
        refusing = mock.Mock(side_effect=AssertionError("not asked for"))
        shown = io.StringIO()
        with contextlib.redirect_stdout(shown), contextlib.redirect_stderr(shown):
            with mock.patch.multiple(builtins, open=refusing, input=refusing, __import__=refusing):
                answers = [answered(call, *arguments) for expected, call, *arguments in LINE]
        self.assertEqual(answers, [expected for expected, call, *arguments in LINE])
        self.assertEqual(shown.getvalue(), "")

    def test_the_package_draws_from_itself_alone(self):
        script = ("import sys; before = set(sys.modules); import fieldprograms.desk; "
                  "print(*sorted({name.split('.')[0] for name in set(sys.modules) - before}))")
        done = subprocess.run([sys.executable, "-c", script], cwd=ROOT, capture_output=True, text=True, check=True)
        self.assertEqual((done.stdout, done.stderr), ("fieldprograms\n", ""))

    def test_long_inputs_need_no_deep_calls(self):
        limit = sys.getrecursionlimit()
        # As many calls as there are around this one, and a few for the program.
        sys.setrecursionlimit(len(inspect.stack(0)) + 40)
        try:
            answers = [answered(call, *arguments) for call, *arguments in self.LONG]
        finally:
            sys.setrecursionlimit(limit)
        self.assertEqual(answers, self.EXPECTED)

    LONG = (
        (read, THOUSAND_BYTES), (read, '"' + "a" * 999), (read, "1[+" + "1" * 997), (read, SIX), (read, TOO_LONG),
        (run, "&".join(["1[+0:-0]~"] * 6), record("x" * 40)), (run, "0", [0] * 20000), (place, "+" * 10000, ""),
        (place, "+" + "1" * 9999, ""), (borders, ".", "'-", "-x" * 20), (runs, "L", "x" * 10000), (fields, SIX),
        (moved, 1, 1, 1, 1, SIX), (join, SIX, "0"), (compare, SIX, SIX),
    )
    EXPECTED = [
        [2, 0], [1, 1000], [3, 3], [0, 6, 30], [-5],
        [0] + text(("X" + "x" * 39) * 6), [-1], [-4],
        [-4], [0] + list(range(0, 40, 2)), [-1], [0],
        [0] + text(SIX), [0] + text(SIX), [0, 0],
    ]


if __name__ == "__main__":
    unittest.main()
