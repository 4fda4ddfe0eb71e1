"""Points [80] to [82], and [9], [10] for them: dues, ends of some arrivals, rooms."""

import itertools
import unittest
from fractions import Fraction

from tandems.errors import BadArrivals, BadDues
from tandems.lates import is_ends, keeps, latest, nearest_ends, rooms
from tandems.lines import Line, ends
from tandems.ratios import Ratio
from tests.draws import many_with_numbers, no_numbers
from tests.oracles import drawn, drawn_arrivals, ratio_rows, ratios, serve
from tests.support import check_raises, check_texts, fraction, fractions, strange_values

LONG = 10 ** 40 - 1
HALF = Ratio(1, 2)
LITTLE = Fraction(1, 1000)
SMALL = [fractions([times[:2], times[2:]]) for times in itertools.product((0, 1, 2), repeat=4)]


def in_time(rows, arrivals, dues):
    return all([end <= due for end, due in zip(serve(rows, arrivals), dues)])


def one_later(arrivals, job, more=LITTLE):
    """The arrivals with one job a little later."""
    return [arrival + more if index == job else arrival for index, arrival in enumerate(arrivals)]


class Latest(unittest.TestCase):
    def check(self, rows, dues):
        """Check that the arrivals keep the dues, and that none of them can be any later."""
        line = Line(ratio_rows(rows))
        told = latest(line, ratios(dues))
        check_texts(self, told, [number.text() for number in told])
        arrivals = [fraction(number) for number in told]
        self.assertTrue(in_time(rows, arrivals, dues))
        for job in range(len(dues)):
            self.assertFalse(in_time(rows, one_later(arrivals, job), dues))
            # Not even if all the others come long before.
            early = [arrival if index == job else arrival - 10 ** 6 for index, arrival in enumerate(arrivals)]
            self.assertFalse(in_time(rows, one_later(early, job), dues))
        self.assertEqual(latest(line=line, dues=tuple(ratios(dues))), told)

    def test_small_lines(self):
        for rows in SMALL:
            for dues in ([0, 0], [3, 1], [1, 3], [-2, 5]):
                self.check(rows, [Fraction(number) for number in dues])

    def test_drawn_lines(self):
        for rows, dues in many_with_numbers(121, 4):
            self.check(rows, dues)

    def test_rising_and_falling_dues(self):
        for rows, dues in many_with_numbers(122, 1):
            self.check(rows, sorted(dues))
            self.check(rows, sorted(dues, reverse=True))
            self.check(rows, [-abs(due) for due in dues])

    def test_all_times_nought(self):
        line = Line([[0, 0, 0]] * 4)
        self.assertEqual([number.text() for number in latest(line, [5, -1, 7])], ["-1", "-1", "7"])

    def test_told_ones(self):
        line = Line([[1, 0, 2], [2, 1, HALF]])
        self.assertEqual([number.text() for number in latest(line, [-3, 0, 9])], ["-6", "-1", "13/2"])
        self.assertEqual([number.text() for number in latest(Line([[7]]), [HALF])], ["-13/2"])

    def test_long_numbers(self):
        line = Line([[LONG, Ratio(1, LONG)]])
        told = latest(line, [0, Ratio(LONG - 1, LONG)])
        self.assertEqual(told, [Ratio(-LONG), Ratio(LONG - 2, LONG)])

    def test_nothing_is_kept_or_changed(self):
        line, dues = Line([[1, 1], [1, 0]]), [5, 2]
        told = latest(line, dues)
        self.assertEqual(dues, [5, 2])
        dues[0] = None
        self.assertEqual(told, latest(line, [5, 2]))
        told.clear()
        self.assertEqual(len(latest(line, [5, 2])), 2)


class Keeps(unittest.TestCase):
    def check(self, rows, arrivals, dues):
        line = Line(ratio_rows(rows))
        told = keeps(line, ratios(arrivals), ratios(dues))
        self.assertIs(told, in_time(rows, arrivals, dues))
        self.assertIs(keeps(line=line, arrivals=tuple(ratios(arrivals)), dues=tuple(ratios(dues))), told)
        bounds = [fraction(number) for number in latest(line, ratios(dues))]
        self.assertEqual(told, all([arrival <= bound for arrival, bound in zip(arrivals, bounds)]))

    def test_drawn_lines(self):
        source = drawn(123)
        for rows, dues in many_with_numbers(124, 3):
            self.check(rows, drawn_arrivals(source, len(dues)), dues)
            bounds = [fraction(number) for number in latest(Line(ratio_rows(rows)), ratios(dues))]
            self.check(rows, bounds, dues)
            self.check(rows, [bound - source.randint(0, 2) for bound in bounds], dues)
            for job in range(len(dues)):
                self.check(rows, one_later(bounds, job), dues)

    def test_a_little_too_late(self):
        line = Line([[1, 1], [1, 0]])
        self.assertIs(keeps(line, [0, 0], [2, 2]), True)
        self.assertIs(keeps(line, [0, 0], [2, Ratio(2 * LONG - 1, LONG)]), False)
        self.assertIs(keeps(line, [0, Ratio(1, LONG)], [2, 2]), True)
        self.assertIs(keeps(line, [Ratio(1, LONG), 0], [2, 2]), False)

    def test_types(self):
        line = Line([[1]])
        self.assertIs(keeps(line, [0], [1]), True)
        self.assertIs(keeps(line, (Ratio(0),), (Ratio(1),)), True)
        self.assertIs(keeps(line, [HALF], [1]), False)


class EndsOfSome(unittest.TestCase):
    def check(self, rows, dues):
        line = Line(ratio_rows(rows))
        told = nearest_ends(line, ratios(dues))
        check_texts(self, told, [number.text() for number in told])
        found = [fraction(number) for number in told]
        # They are ends, within the dues, and those of the arrivals that keep the dues and are latest.
        arrivals = [fraction(number) for number in latest(line, ratios(dues))]
        self.assertEqual(serve(rows, arrivals), found)
        self.assertTrue(all([end <= due for end, due in zip(found, dues)]))
        self.assertEqual(nearest_ends(line=line, dues=tuple(ratios(dues))), told)
        self.assertIs(is_ends(line, told), True)
        self.assertIs(is_ends(line=line, value=ratios(dues)), dues == found)
        self.assertEqual(nearest_ends(line, told), told)

    def test_small_lines(self):
        for rows in SMALL:
            for dues in itertools.product((-1, 0, 1, 2, 4), repeat=2):
                self.check(rows, [Fraction(number) for number in dues])

    def test_drawn_lines(self):
        for rows, dues in many_with_numbers(125, 4):
            self.check(rows, dues)

    def test_none_are_nearer(self):
        # Ends of any arrivals that keep the dues are no later than the nearest ones.
        source = drawn(126)
        for rows, dues in many_with_numbers(127, 2):
            line = Line(ratio_rows(rows))
            nearest = [fraction(number) for number in nearest_ends(line, ratios(dues))]
            for _ in range(5):
                arrivals = drawn_arrivals(source, len(dues))
                late = max([end - due for end, due in zip(serve(rows, arrivals), dues)])
                found = serve(rows, [arrival - late for arrival in arrivals])
                self.assertTrue(all([end <= due for end, due in zip(found, dues)]))
                self.assertTrue(all([end <= most for end, most in zip(found, nearest)]))

    def test_ends_of_arrivals(self):
        for rows, arrivals in many_with_numbers(128, 4):
            line = Line(ratio_rows(rows))
            value = ratios(serve(rows, arrivals))
            self.assertIs(is_ends(line, value), True)
            self.assertIs(is_ends(line, tuple(value)), True)
            self.assertEqual(nearest_ends(line, value), ends(line, ratios(arrivals)))

    def test_near_ends(self):
        # Two jobs of one server end at least the later one's time apart, whatever else they do.
        line = Line([[3, 2]])
        told = [is_ends(line, [5, end]) for end in (6, 7, 8, Ratio(2 * LONG * 7 - 1, 2 * LONG), Ratio(15, 2))]
        self.assertEqual(told, [False, True, True, False, True])
        line = Line([[1, 5], [4, 2]])
        # The later job ends 8 behind the arrival of the other one at least, which itself ends 5 behind it.
        for value, expected in (([0, 3], True), ([0, 2], False), ([0, 0], False), ([9, 8], False), ([-9, -6], True)):
            self.assertIs(is_ends(line, value), expected)
        line = Line([[0, 5], [4, 0]])
        for value, expected in (
            ([4, 4], False), ([4, 5], True), ([4, 3], False), ([-1, 0], True), ([-1, -HALF], False),
        ):
            self.assertIs(is_ends(line, value), expected)

    def test_by_all_arrivals(self):
        for rows in SMALL[::4]:
            line = Line(ratio_rows(rows))
            found = [serve(rows, arrivals) for arrivals in itertools.product(range(-6, 5), repeat=2)]
            for value in itertools.product(range(0, 4), repeat=2):
                self.assertIs(is_ends(line, list(value)), list(value) in found)

    def test_any_values(self):
        for jobs in (1, 2, 6):
            line = Line([[0] * jobs] * 2)
            for value in no_numbers(jobs) + strange_values():
                self.assertIs(is_ends(line, value), False)
                self.assertIs(is_ends(line=line, value=value), False)
            self.assertIs(is_ends(line, [0] * jobs), True)
            self.assertIs(is_ends(line, [Ratio(0)] * jobs), True)
            for value in strange_values():
                self.assertIs(is_ends(line, [value] * jobs), False)

    def test_nothing_is_kept_or_changed(self):
        line, dues = Line([[1, 1], [1, 0]]), [5, 2]
        told = nearest_ends(line, dues)
        self.assertIs(is_ends(line, dues), False)
        self.assertEqual(dues, [5, 2])
        dues[0] = None
        self.assertEqual(told, nearest_ends(line, (5, Ratio(2))))
        told.clear()
        self.assertEqual(len(nearest_ends(line, [5, 2])), 2)


class Rooms(unittest.TestCase):
    def check(self, rows, arrivals):
        line = Line(ratio_rows(rows))
        told = rooms(line, ratios(arrivals))
        check_texts(self, told, [number.text() for number in told])
        expected = serve(rows, arrivals)
        later = [arrival + fraction(room) for arrival, room in zip(arrivals, told)]
        self.assertEqual(serve(rows, later), expected)
        for job, room in enumerate(told):
            self.assertGreaterEqual(fraction(room), 0)
            self.assertEqual(serve(rows, one_later(arrivals, job, fraction(room))), expected)
            self.assertNotEqual(serve(rows, one_later(arrivals, job, fraction(room) + LITTLE)), expected)
        self.assertEqual(rooms(line=line, arrivals=tuple(ratios(arrivals))), told)

    def test_small_lines(self):
        for rows in SMALL:
            for arrivals in ([0, 0], [3, 1], [1, 3], [-2, 5]):
                self.check(rows, [Fraction(number) for number in arrivals])

    def test_drawn_lines(self):
        for rows, arrivals in many_with_numbers(129, 4):
            self.check(rows, arrivals)

    def test_all_times_nought(self):
        line = Line([[0, 0, 0]] * 4)
        self.assertEqual([number.text() for number in rooms(line, [5, -1, 7])], ["0", "6", "0"])

    def test_long_numbers(self):
        line = Line([[LONG, Ratio(1, LONG)]])
        self.assertEqual(rooms(line, [0, 0]), [Ratio(0), Ratio(LONG)])
        self.assertEqual(rooms(line, [0, LONG - 1]), [Ratio(0), Ratio(1)])

    def test_lists_are_new(self):
        line, arrivals = Line([[1, 1], [1, 0]]), [0, 0]
        told = rooms(line, arrivals)
        arrivals[1] = None
        self.assertEqual([number.text() for number in told], ["0", "1"])
        told.clear()
        self.assertEqual(len(rooms(line, [0, 0])), 2)


class WrongArguments(unittest.TestCase):
    def test_dues(self):
        for servers, jobs in ((1, 1), (2, 3), (4, 6)):
            line, given = Line([[1] * jobs] * servers), [0] * jobs
            for value in no_numbers(jobs):
                for told in (latest, nearest_ends):
                    check_raises(self, BadDues, value, lambda: told(line, value))
                    check_raises(self, BadDues, value, lambda: told(line=line, dues=value))
                check_raises(self, BadDues, value, lambda: keeps(line, given, value))
                check_raises(self, BadDues, value, lambda: keeps(line=line, arrivals=given, dues=value))

    def test_arrivals(self):
        for servers, jobs in ((1, 1), (2, 3), (4, 6)):
            line, given = Line([[1] * jobs] * servers), [0] * jobs
            for value in no_numbers(jobs):
                check_raises(self, BadArrivals, value, lambda: rooms(line, value))
                check_raises(self, BadArrivals, value, lambda: rooms(line=line, arrivals=value))
                for dues in (given, None, "dues", value):
                    check_raises(self, BadArrivals, value, lambda: keeps(line, value, dues))
                    check_raises(self, BadArrivals, value, lambda: keeps(line=line, arrivals=value, dues=dues))
