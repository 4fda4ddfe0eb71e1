"""Points [2], [12], and [9], [11] for the Ratios."""

import copy
import unittest
from fractions import Fraction
from math import gcd

from tandems.errors import BadNumber, BadText, ByZero
from tandems.lines import Line
from tandems.ratios import Ratio, as_ratio, read_ratio, total
from tests.support import check_raises, check_raises_plain, fraction, odd_values

SMALL = [Ratio(top, bottom) for top in range(-4, 5) for bottom in (1, 2, 3, 4)]
LONG = 10 ** 40 - 1
BIG = [
    Ratio(LONG, 10 ** 39 + 7), Ratio(-LONG, 3), Ratio(10 ** 44 + 1, 10 ** 44), Ratio(7 ** 47, -(6 ** 51)),
    Ratio(LONG), Ratio(-LONG),
]
NUMBERS = SMALL + BIG + [0, 1, -1, 3, -2, LONG, -LONG]


def terms(ratio):
    return (ratio.top, ratio.bottom)


class Creation(unittest.TestCase):
    def test_lowest_terms_and_signs(self):
        for top in range(-12, 13):
            for bottom in list(range(-12, 0)) + list(range(1, 13)):
                ratio = Ratio(top, bottom)
                self.assertGreater(ratio.bottom, 0)
                self.assertEqual(gcd(ratio.top, ratio.bottom), 1)
                self.assertEqual(ratio.top * bottom, top * ratio.bottom)
                self.assertIs(type(ratio.top), int)
                self.assertIs(type(ratio.bottom), int)

    def test_some(self):
        self.assertEqual(terms(Ratio(6, 4)), (3, 2))
        self.assertEqual(terms(Ratio(6, -4)), (-3, 2))
        self.assertEqual(terms(Ratio(-6, -4)), (3, 2))
        self.assertEqual(terms(Ratio(0, -5)), (0, 1))
        self.assertEqual(terms(Ratio(0)), (0, 1))
        self.assertEqual(terms(Ratio(-7)), (-7, 1))

    def test_by_zero(self):
        for top in (0, 1, -3, LONG):
            check_raises_plain(self, ByZero, lambda: Ratio(top, 0))

    def test_by_name(self):
        self.assertEqual(terms(Ratio(top=2, bottom=-6)), (-1, 3))
        self.assertEqual(terms(Ratio(bottom=4, top=2)), (1, 2))
        self.assertEqual(terms(Ratio(top=5)), (5, 1))

    def test_long_integers(self):
        self.assertEqual(terms(Ratio(LONG * 6, -LONG * 4)), (-3, 2))
        self.assertEqual(terms(Ratio(10 ** 80, 10 ** 40)), (10 ** 40, 1))


class Operations(unittest.TestCase):
    def check(self, answer, expected):
        self.assertIs(type(answer), Ratio)
        self.assertEqual(terms(answer), (expected.numerator, expected.denominator))

    def test_plus_minus_times(self):
        for left in SMALL + BIG:
            for right in NUMBERS:
                one, other = fraction(left), fraction(right)
                self.check(left + right, one + other)
                self.check(left - right, one - other)
                self.check(left * right, one * other)

    def test_opposite(self):
        for ratio in SMALL + BIG:
            self.check(-ratio, -fraction(ratio))

    def test_over(self):
        for left in SMALL + BIG:
            for right in NUMBERS:
                if fraction(right) == 0:
                    check_raises_plain(self, ByZero, lambda: left.over(right))
                else:
                    self.check(left.over(right), fraction(left) / fraction(right))
        self.check(Ratio(1).over(number=-2), Fraction(-1, 2))

    def test_comparisons(self):
        for left in SMALL + BIG:
            for right in NUMBERS:
                one, other = fraction(left), fraction(right)
                for answer, expected in (
                    (left == right, one == other),
                    (left != right, one != other),
                    (left < right, one < other),
                    (left <= right, one <= other),
                ):
                    self.assertIs(answer, expected, (left.text(), fraction(right)))

    def test_nothing_changes(self):
        left, right = Ratio(3, 4), Ratio(-5, 6)
        for act in (
            lambda: left + right, lambda: left - right, lambda: left * right, lambda: -left,
            lambda: left.over(right), lambda: left < right, lambda: left.text(), lambda: total([left, right]),
        ):
            act()
            self.assertEqual(terms(left), (3, 4))
            self.assertEqual(terms(right), (-5, 6))

    def test_in_place_signs_make_new_ones(self):
        first = again = Ratio(1, 2)
        again += 1
        again *= 3
        again -= Ratio(1, 2)
        self.assertEqual(terms(first), (1, 2))
        self.assertEqual(terms(again), (4, 1))


class Equality(unittest.TestCase):
    def test_integers(self):
        self.assertTrue(Ratio(4, 2) == 2)
        self.assertTrue(2 == Ratio(4, 2))
        self.assertTrue(Ratio(0) == 0)
        self.assertFalse(Ratio(1, 2) == 0)
        self.assertFalse(Ratio(1, 2) == 1)
        self.assertFalse(Ratio(-2) == 2)
        self.assertEqual([Ratio(1), 2], [1, Ratio(2)])

    def test_true_and_false(self):
        for ratio, truth in ((Ratio(1), True), (Ratio(0), False)):
            self.assertFalse(ratio == truth)
            self.assertFalse(truth == ratio)
            self.assertTrue(ratio != truth)
            self.assertTrue(truth != ratio)

    def test_other_classes(self):
        for ratio in (Ratio(0), Ratio(1), Ratio(1, 2)):
            for value in odd_values() + [Line([[ratio]]), ByZero(), (ratio.top, ratio.bottom), ratio.text()]:
                if value.__class__ not in (int, Ratio):
                    self.assertIs(ratio == value, False, value)
                    self.assertIs(value == ratio, False, value)

    def test_copies_are_equal(self):
        for ratio in SMALL + BIG:
            self.assertTrue(ratio == Ratio(ratio.top, ratio.bottom))
            self.assertTrue(copy.deepcopy(ratio) == ratio)


class AsRatio(unittest.TestCase):
    def test_numbers(self):
        for number in NUMBERS:
            answer = as_ratio(number)
            self.assertIs(type(answer), Ratio)
            self.assertEqual(terms(answer), (fraction(number).numerator, fraction(number).denominator))
        self.assertEqual(terms(as_ratio(given=5)), (5, 1))

    def test_no_numbers(self):
        for value in odd_values() + [Ratio, "0/1", [Ratio(1)], {"top": 1, "bottom": 2}, (1, 2)]:
            if value.__class__ not in (int, Ratio):
                check_raises(self, BadNumber, value, lambda: as_ratio(value))
                check_raises(self, BadNumber, value, lambda: as_ratio(given=value))


class Texts(unittest.TestCase):
    def test_some(self):
        for ratio, text in (
            (Ratio(-2, 5), "-2/5"), (Ratio(2, -5), "-2/5"), (Ratio(3), "3"), (Ratio(9, 3), "3"), (Ratio(-3), "-3"),
            (Ratio(0), "0"), (Ratio(0, -4), "0"), (Ratio(10, 20), "1/2"), (Ratio(100, 3), "100/3"),
        ):
            self.assertEqual(ratio.text(), text)
            self.assertEqual(terms(read_ratio(text)), terms(ratio))

    def test_there_and_back(self):
        for ratio in SMALL + BIG:
            answer = read_ratio(text=ratio.text())
            self.assertIs(type(answer), Ratio)
            self.assertEqual(terms(answer), terms(ratio))
            self.assertEqual(ratio.text(), str(fraction(ratio)))

    def test_4000_digits(self):
        ratio = Ratio(-(10 ** 3999) - 1, 10 ** 3999)
        self.assertEqual(len(ratio.text()), 8002)
        self.assertEqual(terms(read_ratio(ratio.text())), terms(ratio))

    def test_every_other_short_string(self):
        signs = ["", "0", "1", "2", "4", "-", "+", "/", " "]
        right = {str(number) for number in range(-444, 4445)}
        right |= {str(Fraction(top, bottom)) for top in range(-44, 45) for bottom in range(1, 45)}
        words = {a + b + c + d for a in signs for b in signs for c in signs for d in signs}
        self.assertGreater(len(words & right), 50)
        for word in words:
            if word in right:
                self.assertEqual(read_ratio(word).text(), word)
            else:
                check_raises_plain(self, BadText, lambda: read_ratio(word))

    def test_bad_texts(self):
        for text in (
            "", " ", "-", "+", "/", "2/4", "+3", "-0", "-0/1", "0/1", "3/1", "-3/1", "00", "007", "-07", "1/02", "01/2",
            "1/0", "0/0", "-1/0", "1/-2", "-1/-2", "--1", "1-", "1/", "/2", "1/2/3", "1//2", "1 /2", "1/ 2", " 1", "1 ",
            "1\n", "\n1", "1/2\n", "1.5", "1e3", "0x1", "1_000", "1,5", "one", "1/a", "a/1", "None", "- 1", "-+1", "+-1",
            "(1)", "1/+2", "2/2", "0/5", "0" * 40, "1" + " " * 1999, "1/" * 1000, "-" * 2000, "\n" * 2000,
        ):
            check_raises_plain(self, BadText, lambda: read_ratio(text))

    def test_signs_beyond_ascii(self):
        for text in ("\u00b2", "\u0663", "1/\u0663", "\uff11", "\u22121", "\u00bd", "1\u00a0", "1\u20442"):
            check_raises_plain(self, BadText, lambda: read_ratio(text))


class Totals(unittest.TestCase):
    def test_sums(self):
        for numbers in ([], [1], [Ratio(1, 2)], [1, 2, 3], [Ratio(1, 2), 1, Ratio(-1, 3)], NUMBERS, [-1, 1]):
            expected = sum([fraction(number) for number in numbers], Fraction(0))
            for given in (list(numbers), tuple(numbers)):
                answer = total(given)
                self.assertIs(type(answer), Ratio)
                self.assertEqual(terms(answer), (expected.numerator, expected.denominator))

    def test_empty(self):
        self.assertEqual(terms(total([])), (0, 1))
        self.assertEqual(terms(total(())), (0, 1))
        self.assertEqual(terms(total(numbers=[])), (0, 1))

    def test_list_not_changed(self):
        numbers = [1, Ratio(1, 2), 3]
        answer = total(numbers)
        self.assertEqual(len(numbers), 3)
        self.assertIs(type(numbers[0]), int)
        numbers[0] = 100
        self.assertEqual(terms(answer), (9, 2))
