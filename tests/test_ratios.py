"""Tests of slackstrings.ratios."""

import unittest
from fractions import Fraction
from math import gcd

from slackstrings.errors import InvalidNumber, InvalidText
from slackstrings.ratios import Ratio
from tests.values import LONG, NINES, others

TOPS = [*range(-13, 14), -360, 360, NINES, -NINES, LONG, 7 * LONG // 10]
BOTTOMS = [*range(1, 61), 61, 64, 97, 360, 1001, NINES, LONG, LONG // 6]
# Fewer of them where each stands beside each.
FEW = [(0, 1), (1, 1), (-1, 1), (7, 1), (-7, 1), (1, 2), (-1, 2), (3, 2), (-3, 2), (2, 3), (-2, 3),
       (5, 6), (-5, 6), (7, 60), (-59, 60), (61, 60), (LONG, 1), (-LONG, 7), (LONG, NINES), (-NINES, LONG)]
WHOLE = [0, 1, -1, 2, -2, 3, 7, -7, 60, LONG, -NINES]


STRINGS = ["", "7", "1/2", "seven", "-"]


def kept(ratio):
    """The pair of top and bottom, known to be in lowest terms."""
    assert type(ratio) is Ratio
    assert type(ratio.top) is int and type(ratio.bottom) is int
    assert ratio.bottom > 0 and gcd(ratio.top, ratio.bottom) == 1
    return ratio.top, ratio.bottom


def same(pair, other):
    """Whether two pairs tell the same fraction, by cross products."""
    return pair[0] * other[1] == other[0] * pair[1]


def sides():
    """Pairs of two operands, one a Ratio at least, each beside its own top and bottom."""
    ratios = [(Ratio(*pair), pair) for pair in FEW]
    whole = [(number, (number, 1)) for number in WHOLE]
    yield from ((x, y) for x in ratios for y in ratios + whole)
    yield from ((x, y) for x in whole for y in ratios)


class RatioTest(unittest.TestCase):

    def assert_refused(self, error, value, act, *given, **named):
        with self.assertRaises(error) as caught:
            act(*given, **named)
        self.assertIs(type(caught.exception), error)
        self.assertIs(caught.exception.value, value)


class MakingTest(RatioTest):

    def test_lowest_terms(self):
        for top in TOPS:
            for bottom in BOTTOMS:
                pair = kept(Ratio(top, bottom))
                self.assertTrue(same(pair, (top, bottom)), (top, bottom))

    def test_told_tops_and_bottoms(self):
        rows = [((6, 4), (3, 2)), ((-6, 4), (-3, 2)), ((0, 5), (0, 1)), ((7, 1), (7, 1)), ((-60, 60), (-1, 1)),
                ((NINES, NINES), (1, 1)), ((2 * NINES, 4 * NINES), (1, 2)), ((1, LONG), (1, LONG))]
        for given, pair in rows:
            self.assertEqual(kept(Ratio(*given)), pair)

    def test_the_bottom_may_be_left_out(self):
        for top in TOPS:
            self.assertEqual(kept(Ratio(top)), (top, 1))

    def test_by_name(self):
        self.assertEqual(kept(Ratio(top=6, bottom=4)), (3, 2))
        self.assertEqual(kept(Ratio(bottom=4, top=-6)), (-3, 2))
        self.assertEqual(kept(Ratio(6, bottom=4)), (3, 2))
        self.assertEqual(kept(Ratio(top=-6)), (-6, 1))

    def test_tops_of_other_kinds(self):
        for value in [*others(), *STRINGS, Ratio(1), Ratio(1, 2)]:
            self.assert_refused(InvalidNumber, value, Ratio, value)
            self.assert_refused(InvalidNumber, value, Ratio, value, 2)
            self.assert_refused(InvalidNumber, value, Ratio, top=value)

    def test_bottoms_of_other_kinds(self):
        for value in [*others(), *STRINGS, Ratio(1), Ratio(1, 2), 0, -1, -2, -LONG]:
            self.assert_refused(InvalidNumber, value, Ratio, 3, value)
            self.assert_refused(InvalidNumber, value, Ratio, 0, value)
            self.assert_refused(InvalidNumber, value, Ratio, bottom=value, top=3)

    def test_the_top_goes_ahead_of_the_bottom(self):
        for top in [*others(), "7", Ratio(1)]:
            for bottom in [0, -5, True, None, "2", [], Ratio(2)]:
                self.assert_refused(InvalidNumber, top, Ratio, top, bottom)
                self.assert_refused(InvalidNumber, top, Ratio, bottom=bottom, top=top)


class ReckoningTest(RatioTest):

    def test_sums(self):
        for (x, (a, b)), (y, (c, d)) in sides():
            self.assertTrue(same(kept(x + y), (a * d + c * b, b * d)))

    def test_differences(self):
        for (x, (a, b)), (y, (c, d)) in sides():
            self.assertTrue(same(kept(x - y), (a * d - c * b, b * d)))

    def test_products(self):
        for (x, (a, b)), (y, (c, d)) in sides():
            self.assertTrue(same(kept(x * y), (a * c, b * d)))

    def test_opposites(self):
        for top, bottom in FEW:
            self.assertTrue(same(kept(-Ratio(top, bottom)), (-top, bottom)))

    def test_quotients(self):
        for (x, (a, b)), (y, (c, d)) in sides():
            if isinstance(x, Ratio) and c != 0:
                self.assertTrue(same(kept(x.over(y)), (a * d, b * c)))
                self.assertEqual(kept(x.over(other=y)), kept(x.over(y)))

    def test_told_results(self):
        half = Ratio(1, 2)
        rows = [(half + half, (1, 1)), (1 + half, (3, 2)), (half + 1, (3, 2)), (1 - half, (1, 2)),
                (half - 1, (-1, 2)), (half - Ratio(1, 3), (1, 6)), (4 * half, (2, 1)), (half * -3, (-3, 2)),
                (half.over(-3), (-1, 6)), (half.over(Ratio(-1, 4)), (-2, 1)), (Ratio(-3).over(-6), (1, 2)),
                (Ratio(0).over(-5), (0, 1)), (-Ratio(0), (0, 1)), (-half, (-1, 2))]
        for found, pair in rows:
            self.assertEqual(kept(found), pair)

    def test_operands_stay_as_they_are(self):
        x, y = Ratio(1, 2), Ratio(-3, 4)
        for _ in (x + y, x - y, x * y, -x, x.over(y), x.compared(y), x == y, 1 + x, 1 - x, 2 * x, str(x)):
            self.assertEqual([kept(x), kept(y)], [(1, 2), (-3, 4)])

    def test_no_quotient_by_zero(self):
        for zero in [0, Ratio(0), Ratio(0, 7), Ratio(1) - 1]:
            for top in [-1, 0, 1]:
                self.assert_refused(InvalidNumber, zero, Ratio(top, 2).over, zero)
                self.assert_refused(InvalidNumber, zero, Ratio(top, 2).over, other=zero)

    def test_quotients_by_other_kinds(self):
        for value in [*others(), *STRINGS]:
            self.assert_refused(InvalidNumber, value, Ratio(1, 2).over, value)
            self.assert_refused(InvalidNumber, value, Ratio(0).over, other=value)


class ComparingTest(RatioTest):

    def test_compared(self):
        for (x, (a, b)), (y, (c, d)) in sides():
            if isinstance(x, Ratio):
                expected = -1 if a * d < c * b else 1 if a * d > c * b else 0
                self.assertEqual(x.compared(y), expected)
                self.assertEqual(x.compared(other=y), expected)
                self.assertIs(type(x.compared(y)), int)

    def test_compared_with_itself_and_with_others_of_its_value(self):
        for top, bottom in FEW:
            ratio = Ratio(top, bottom)
            self.assertEqual(ratio.compared(ratio), 0)
            self.assertEqual(ratio.compared(Ratio(3 * top, 3 * bottom)), 0)
        self.assertEqual(Ratio(6, 2).compared(3), 0)
        self.assertEqual([Ratio(-1, 2).compared(n) for n in (-1, 0, 1)], [1, -1, -1])

    def test_compared_with_close_ones(self):
        self.assertEqual(Ratio(LONG, NINES).compared(Ratio(LONG + 1, NINES)), -1)
        self.assertEqual(Ratio(LONG, NINES - 1).compared(Ratio(LONG, NINES)), 1)
        self.assertEqual(Ratio(-LONG, NINES - 1).compared(Ratio(-LONG, NINES)), -1)

    def test_compared_with_other_kinds(self):
        for value in [*others(), *STRINGS]:
            self.assert_refused(InvalidNumber, value, Ratio(1).compared, value)
            self.assert_refused(InvalidNumber, value, Ratio(1, 2).compared, other=value)

    def test_equality_with_ratios_and_integers(self):
        for (x, pair), (y, other) in sides():
            self.assertIs(x == y, same(pair, other))
            self.assertIs(x != y, not same(pair, other))

    def test_equality_with_the_like(self):
        for top, bottom in FEW:
            self.assertTrue(Ratio(top, bottom) == Ratio(top * 6, bottom * 6))
            self.assertFalse(Ratio(top, bottom) != Ratio(top * 6, bottom * 6))
            self.assertFalse(Ratio(top, bottom) == Ratio(top + 1, bottom))
            self.assertFalse(Ratio(top, bottom) == Ratio(top * bottom * 2 + 1, bottom * 2 * bottom))

    def test_truths_are_no_integers(self):
        for ratio in [Ratio(0), Ratio(1), Ratio(1, 2)]:
            for truth in [True, False]:
                self.assertIs(ratio == truth, False)
                self.assertIs(truth == ratio, False)
                self.assertIs(ratio != truth, True)
                self.assertIs(truth != ratio, True)

    def test_equality_with_other_kinds(self):
        for ratio in [Ratio(0), Ratio(1), Ratio(7), Ratio(1, 2), Ratio(-1)]:
            for value in [*others(), *STRINGS, str(ratio), (ratio.top, ratio.bottom), [ratio], {"top": ratio.top}]:
                self.assertIs(ratio == value, False)
                self.assertIs(ratio != value, True)

    def test_all_are_true(self):
        for top in [-1, 0, 1]:
            self.assertTrue(Ratio(top))


REFUSED = [
    "", " ", "+7", "+0", "+1/2", "07", "00", "-07", "-0", "-00", "-0/1", "0/1", "0/2", "-0/2", "4/2", "-4/2", "2/4",
    "7/1", "-7/1", "1/0", "-1/0", "0/0", " 7", "7 ", "7\n", "\n7", "\t7", "7\t", "7\x00", "1 /2", "1/ 2", "1/2 ",
    " 1/2", "1/2\n", "- 7", "-\n7", "1/-2", "-1/-2", "1/+2", "--1", "--1/2", "-+1", "+-1", "1-", "7-", "1/2-", "-",
    "--", "/", "1/", "/2", "-/2", "-1/", "1//2", "1/2/3", "1/2/", "/1/2", "1/02", "01/2", "01/02", "1/00", "1_000",
    "1_0/3", "1/1_1", "7.0", "7.", ".5", "1e3", "0x7", "0b1", "7L", "1,5", "1:2", "1\\2", "seven", "a", "None", "True",
    "nan", "inf", "\u0667", "\u00b2", "1/\u0662", "\u0661/2", "\u2212" + "7", "\uff17", "1\u20442", "\u00bd", "7\u00a0",
    "\ud800", "Ratio(7)", "(7)", "'7'", "1" * 1999 + " ", "0" * 2000, "-" * 2000, "/" * 2000, "1/" * 1000,
]


class TextTest(RatioTest):

    def test_text(self):
        rows = [((7, 1), "7"), ((-7, 2), "-7/2"), ((7, 2), "7/2"), ((0, 9), "0"), ((-14, 2), "-7"), ((4, 6), "2/3"),
                ((LONG, 1), "123456789012345678901234567890"), ((-1, NINES), "-1/" + "9" * 30)]
        for given, text in rows:
            self.assertEqual(str(Ratio(*given)), text)
            self.assertIs(type(str(Ratio(*given))), str)

    def test_read_tells_what_str_gave(self):
        for top in TOPS:
            for bottom in BOTTOMS:
                ratio = Ratio(top, bottom)
                found = Ratio.read(str(ratio))
                self.assertEqual(kept(found), kept(ratio))
                self.assertEqual(str(found), str(ratio))

    def test_read_told_texts(self):
        rows = {"7": (7, 1), "-7/2": (-7, 2), "0": (0, 1), "-1": (-1, 1), "10": (10, 1), "1/10": (1, 10),
                "100/3": (100, 3), "9" * 30: (NINES, 1), "-" + "9" * 30 + "/1" + "0" * 29: (-NINES, 10 ** 29)}
        for text, pair in rows.items():
            self.assertEqual(kept(Ratio.read(text)), pair)

    def test_read_by_name_and_off_an_object(self):
        self.assertEqual(kept(Ratio.read(text="-7/2")), (-7, 2))
        self.assertEqual(kept(Ratio(3).read("-7/2")), (-7, 2))
        self.assertIsInstance(vars(Ratio)["read"], staticmethod)

    def test_read_takes_no_other_texts(self):
        for text in REFUSED:
            with self.subTest(text=ascii(text)[:40]):
                self.assert_refused(InvalidText, text, Ratio.read, text)
                self.assert_refused(InvalidText, text, Ratio.read, text=text)

    def test_read_takes_a_text_only_if_str_gives_it(self):
        texts = [""]
        for _ in range(4):
            texts = texts + [text + sign for text in texts for sign in "-+ /012"]
        given = {str(Ratio(top, bottom)) for top in range(-2300, 2301) for bottom in range(1, 23)}
        for text in set(texts):
            if text in given:
                self.assertEqual(str(Ratio.read(text)), text)
            else:
                self.assert_refused(InvalidText, text, Ratio.read, text)

    def test_read_with_signs_put_in_left_out_or_exchanged(self):
        for text in ["7", "-7/2", "10/3", "-12", "0"]:
            for at in range(len(text) + 1):
                for sign in ["-", "+", "/", " ", "0", "_", ".", "\n"]:
                    for changed in [text[:at] + sign + text[at:], text[:at] + sign + text[at + 1:],
                                    text[:at] + text[at + 1:]]:
                        self.assert_read_like_a_fraction(changed)

    def assert_read_like_a_fraction(self, text):
        """Python's own fractions read more texts; what str gives of them is the one text that is right."""
        try:
            right = str(Fraction(text)) == text
        except (ValueError, ZeroDivisionError):
            right = False
        if right:
            self.assertEqual(str(Ratio.read(text)), text)
        else:
            self.assert_refused(InvalidText, text, Ratio.read, text)

    def test_read_of_other_kinds(self):
        for value in [*others(), 7, 0, -1, LONG, Ratio(7), Ratio(1, 2), ["7"], ("7",), ("1", "/", "2"), {"7": 7}]:
            self.assert_refused(InvalidText, value, Ratio.read, value)
            self.assert_refused(InvalidText, value, Ratio.read, text=value)


class InterfaceTest(unittest.TestCase):

    def test_methods_are_defined_in_the_class_itself(self):
        for name in ["__init__", "__add__", "__radd__", "__sub__", "__rsub__", "__mul__", "__rmul__", "__neg__",
                     "__eq__", "__str__", "compared", "over", "read"]:
            self.assertIn(name, vars(Ratio))
        self.assertEqual(Ratio.__module__, "slackstrings.ratios")
