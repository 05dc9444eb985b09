"""Promise 5: compare."""

import unittest

from fieldprograms.desk import compare, cost
from tests.helper import EXAMPLE, FAULTS, SIX, TOO_LONG, CallCase, as_second, text

# Every sort of piece and of position, and several pieces of the same cost.
PIECES = ("1[+0:-0]", "2[+0:-0]", "1[+0:+0]", "1[-0:+0]", "1[+0:-0]^", "1[+0:-0]_", "1[+0:-0]~", "1[+1:-0]",
          "1[+10:-0]", "1[+0:-9]", "1[D|.+1:-0]", "1[.|D+1:-0]", "1['-|.+1:-0]", "1['.|L-2:'~|U+3]", "1[D|L+12:-0]",
          '"a"', '"b"', '" "', '"!"', '""""', '"#"', '"aa"', '"a"""', '"""a"', '"~~~"')


def text_ahead(one, other):
    """A second way to tell it, byte by byte."""
    for place in range(len(one)):
        if place == len(other) or one[place] > other[place]:
            return False
        if one[place] < other[place]:
            return True
    return len(one) < len(other)


def piece_cost(piece):
    return cost(text(piece))[1]


def program_ahead(one, other):
    """A second way to tell it of two lists of pieces."""
    costs = [sum(piece_cost(piece) for piece in pieces) for pieces in (one, other)]
    if costs[0] != costs[1]:
        return costs[0] < costs[1]
    if len(one) != len(other):
        return len(one) < len(other)
    for piece, rival in zip(one, other):
        if piece != rival:
            if piece_cost(piece) != piece_cost(rival):
                return piece_cost(piece) < piece_cost(rival)
            return text_ahead(text(piece), text(rival))
    return False


class CompareCase(CallCase):
    def assert_ahead(self, p, q):
        self.assert_answer([0, 1], compare, p, q)
        self.assert_answer([0, 2], compare, q, p)

    def assert_order(self, *programs):
        for place, p in enumerate(programs):
            self.assert_answer([0, 0], compare, p, p)
            for q in programs[place + 1:]:
                self.assert_ahead(p, q)


class Examples(CompareCase):
    def test_the_example(self):
        self.assert_answer([0, 1], compare, "1[+0:-0]", '"ab"')
        self.assert_answer([0, 2], compare, '"ab"', "1[+0:-0]")


class SameProgram(CompareCase):
    def test_same(self):
        for program in ("0", EXAMPLE, '"a"', '""""', SIX, "4['||''-40:-60]~", '" "&1[+0:-0]&" "'):
            self.assert_answer([0, 0], compare, program, program)

    def test_one_list_for_both(self):
        program = text(EXAMPLE)
        self.assertEqual(compare(program, program), [0, 0])
        self.assertEqual(program, text(EXAMPLE))


class ByCost(CompareCase):
    def test_the_empty_program_is_ahead_of_all_others(self):
        for program in ("1[+0:-0]", "1[+0:+0]", '"a"', '" "', EXAMPLE, SIX):
            self.assert_ahead("0", program)

    def test_cost_alone(self):
        self.assert_order("1[+0:-0]", "1[D|.+1:-0]", "1[D|.-1:-0]", "1[D|L+1:-0]", "1[D|L-1:-0]", "1[+0:+1]^")
        self.assert_order('"a"', '"aa"', '"aaa"', '"aaaaaaaaaaaa"')

    def test_cost_ahead_of_the_number_of_pieces(self):
        self.assert_ahead("1[+0:-0]&1[+0:-0]", '"abc"')
        self.assert_ahead("&".join(["1[+0:-0]"] * 6), '"abcdefghijkl"')

    def test_cost_ahead_of_texts(self):
        self.assert_ahead("4[+0:-0]", '" "')
        self.assert_ahead('"z"', '"aa"')
        self.assert_ahead("1[D|.+9:-0]", "1[D|.+10:-0]")

    def test_the_whole_cost_ahead_of_the_first_piece(self):
        self.assert_ahead('"bb"&1[+0:-0]', '"a"&"aaa"')
        self.assert_ahead('"b"&1[+0:-0]', '"a"&"a"')

    def test_one_program_that_begins_the_other(self):
        self.assert_order('"a"', '"a"&"a"', '"a"&"a"&"a"', SIX)


class ByNumberOfPieces(CompareCase):
    def test_fewer_pieces_at_the_same_cost(self):
        self.assert_order("1[+1:-1]", '"a"&"aa"', "1[+0:-0]&1[+0:-0]&1[+0:-0]")
        self.assert_order('"aaa"', '1[+0:-0]&"a"')
        self.assert_order('"zzz"', '" "&1[+0:-0]')

    def test_five_and_six(self):
        five = '"b"&"b"&"bb"&"bb"&1[D|.+1:-0]'
        self.assertEqual(cost(text(five))[1], cost(text(SIX))[1])
        self.assert_ahead(five, SIX)


class ByPieceCost(CompareCase):
    def test_at_the_first_piece(self):
        self.assert_ahead('"a"&"bb"', '"aa"&"b"')
        self.assert_ahead('"z"&"bb"', '"aa"&"b"')
        self.assert_ahead('1[+0:-0]&"aa"', '"a"&1[D|.+1:-0]')
        self.assert_ahead("4[+0:-0]&1[+0:-0]^", "1[+0:-0]^&4[+0:-0]")

    def test_at_a_later_piece(self):
        self.assert_ahead('"x"&"z"&"bb"', '"x"&"aa"&"b"')
        self.assert_ahead('"x"&"y"&"w"&"w"&"z"&"bb"', '"x"&"y"&"w"&"w"&"aa"&"b"')

    def test_a_later_piece_does_not_matter(self):
        self.assert_ahead('"z"&"aaa"&"zz"', '"aa"&"a"&"aaa"')

    def test_a_text_that_begins_the_other(self):
        # Such a piece's cost is always less: the longer text has more bytes in its constant, or a sign behind its part.
        self.assert_ahead('"a"&"bb"', '"a"""&"b"')
        self.assert_ahead("1[+0:-0]&1[+0:-0]^", "1[+0:-0]^&1[+0:-0]")


class ByPieceText(CompareCase):
    def test_constants(self):
        self.assert_order('" "', '"!"', '""""', '"#"', '"0"', '"A"', '"a"', '"b"', '"~"')
        self.assert_order('"""a"', '"a"""', '"a#"', '"aa"', '"ab"', '"b "')

    def test_fields(self):
        self.assert_order("1[+0:-0]", "2[+0:-0]", "3[+0:-0]", "4[+0:-0]")

    def test_signs_behind_a_part(self):
        self.assert_order("1[+0:-0]^", "1[+0:-0]_", "1[+0:-0]~")

    def test_ends_of_the_text(self):
        self.assert_order("1[+0:+0]", "1[+0:-0]", "1[-0:+0]", "1[-0:-0]")

    def test_numbers_are_compared_as_they_are_written(self):
        self.assert_order("1[+10:-0]", "1[+19:-0]", "1[+1:-0]", "1[+20:-0]", "1[+2:-0]", "1[+9:-0]", "1[-1:-0]")
        self.assert_order("1[+0:+10]", "1[+0:+1]", "1[+0:+2]", "1[+0:-10]", "1[+0:-1]")

    def test_classes(self):
        signs = ("''", "'-", "'.", "'|", "'~", "A", "B", "D", "L", "N", "U")
        self.assert_order(*[f"1[{sign}|.+1:-0]" for sign in signs])
        self.assert_order(*[f"1[D|{sign}+1:-0]" for sign in signs])
        self.assert_order("1[.|A+1:-0]", "1[A|.+1:-0]")
        self.assert_order("1[D|.+2:-0]", "1[D|.-1:-0]")

    def test_a_constant_and_a_part(self):
        self.assert_order('"~~"', "1[+0:-0]^")

    def test_at_a_later_piece(self):
        self.assert_ahead('"x"&1[+0:-0]&"a"', '"x"&1[+0:-0]&"b"')
        self.assert_ahead(SIX, SIX[:-2] + 'b"')

    def test_a_later_piece_does_not_matter(self):
        self.assert_ahead('"a"&"z"', '"b"&"y"')
        self.assert_ahead('"x"&"a"&"z"', '"x"&"b"&"a"')
        self.assert_ahead('"a"&"bb"&"c"', '"b"&"b"&"cc"')


class EveryPair(CompareCase):
    def test_programs_of_one_and_two_pieces(self):
        programs = [[]] + [[piece] for piece in PIECES] + [[one, other] for one in PIECES[::2] for other in PIECES[::3]]
        # The answers are counted, so that none of the three is left unasked.
        found = [0, 0, 0]
        for p in programs:
            for q in programs:
                expected = 1 if program_ahead(p, q) else 2 if program_ahead(q, p) else 0
                self.assertEqual(expected == 0, p == q)
                self.assertEqual(compare(text("&".join(p) or "0"), text("&".join(q) or "0")), [0, expected], (p, q))
                found[expected] += 1
        self.assertGreater(min(found), 100)


class FaultsAndRefusals(CompareCase):
    def test_of_the_first(self):
        for program, fault in FAULTS:
            self.assert_answer(fault, compare, program, '"a"')
            self.assert_answer(fault, compare, program, "0")

    def test_of_the_second(self):
        for program, fault in FAULTS:
            self.assert_answer(as_second(fault), compare, '"a"', program)
            self.assert_answer(as_second(fault), compare, "0", program)

    def test_of_both(self):
        for program, fault in FAULTS:
            for other, ignored in FAULTS:
                self.assert_answer(fault, compare, program, other)

    def test_too_long(self):
        for long in (TOO_LONG, "x" * 1001, "0" * 1001, [255] * 10000):
            self.assert_answer([-5], compare, long, '"a"')
            self.assert_answer([-5], compare, '"a"', long)
            self.assert_answer([-5], compare, long, long)

    def test_too_long_and_a_fault(self):
        for program, fault in FAULTS:
            self.assert_answer(fault, compare, program, TOO_LONG)
            self.assert_answer([-5], compare, TOO_LONG, program)


class NothingKept(CompareCase):
    def test_calls_between_do_not_matter(self):
        for other in (("0", "0"), ('""', "0"), ("0", '""'), (TOO_LONG, "0"), ('"b"', '"a"'), ("", "")):
            self.ask(compare, text(other[0]), text(other[1]))
            self.assert_ahead("1[+0:-0]", '"ab"')

    def test_the_texts_are_as_they_were(self):
        p, q = text(EXAMPLE), text('"a""b"&2[D|.+1:-0]')
        compare(p, q)
        self.assertEqual((p, q), (text(EXAMPLE), text('"a""b"&2[D|.+1:-0]')))


if __name__ == "__main__":
    unittest.main()
