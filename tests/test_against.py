"""Points [90] to [92], and [9], [10] for them: one line against another one."""

import itertools
import unittest
from fractions import Fraction

from tandems.against import by_turns, is_later, job_later_by, later_by, never_later, shown_later
from tandems.errors import BadArrivals, BadJob, Unlike
from tandems.lines import Line
from tandems.moves import moved_down, room_down
from tandems.ratios import Ratio
from tandems.turns import risen
from tests.oracles import drawn, drawn_arrivals, drawn_rows, ratio_rows, ratios, reaches_by_ways, serve
from tests.support import (
    check_raises, check_raises_plain, check_texts, fraction, fractions, odd_values, strange_values, values_but,
)

LONG = 10 ** 40 - 1
HALF = Ratio(1, 2)
SMALL = [fractions([times[:2], times[2:]]) for times in itertools.product((0, 1, 2), repeat=4)]


def many_pairs(seed, draws):
    """Drawn pairs of lines with equally many jobs, with all numbers of servers."""
    source = drawn(seed)
    for servers, others, jobs in itertools.product(range(1, 5), range(1, 5), (1, 2, 3, 6)):
        for _ in range(draws):
            yield drawn_rows(source, servers, jobs), drawn_rows(source, others, jobs)


def gaps(one, other):
    """For each job the differences of the reaches to it, by first jobs."""
    jobs = len(one[0])
    mine, theirs = reaches_by_ways(one), reaches_by_ways(other)
    return [
        [mine[first][job - first] - theirs[first][job - first] for first in range(job + 1)] for job in range(jobs)
    ]


class Against(unittest.TestCase):
    def check(self, one, other):
        """Check what is told by the differences of the reaches and by the ends for the told arrivals."""
        lines = [Line(ratio_rows(rows)) for rows in (one, other)]
        table = gaps(one, other)
        most = max([max(row) for row in table])
        never = never_later(*lines)
        self.assertIs(never, most <= 0)
        self.check_shown(one, other, lines, most)
        told = later_by(*lines)
        self.assertEqual([type(told), len(told), type(told[2])], [tuple, 3, int])
        self.check_told(one, other, told, told[2], most)
        for job in range(len(one[0])):
            told = job_later_by(*lines, job)
            self.assertEqual([type(told), len(told)], [tuple, 2])
            self.check_told(one, other, told, job, max(table[job]))
            self.assertEqual(job_later_by(one=lines[0], other=lines[1], job=job), told)
        self.assertIs(never_later(one=lines[0], other=lines[1]), never)
        self.assertEqual(later_by(one=lines[0], other=lines[1]), later_by(*lines))
        self.assertEqual([fractions(line.rows()) for line in lines], [one, other])

    def check_shown(self, one, other, lines, most):
        shown = shown_later(*lines)
        self.assertEqual(shown_later(one=lines[0], other=lines[1]), shown)
        if most <= 0:
            self.assertIsNone(shown)
            return
        self.assertEqual([type(shown), len(shown), type(shown[1])], [tuple, 2, int])
        arrivals, job = shown
        check_texts(self, arrivals, [number.text() for number in arrivals])
        given = [fraction(number) for number in arrivals]
        self.assertGreater(serve(one, given)[job], serve(other, given)[job])
        self.assertIs(is_later(*lines, shown), True)

    def check_told(self, one, other, told, job, most):
        self.assertIs(type(told[0]), Ratio)
        check_texts(self, told[1], [number.text() for number in told[1]])
        given = [fraction(number) for number in told[1]]
        self.assertEqual(fraction(told[0]), most)
        self.assertEqual(serve(one, given)[job] - serve(other, given)[job], most)

    def test_small_lines(self):
        for one, other in itertools.product(SMALL[::4], SMALL[::5]):
            self.check(one, other)

    def test_drawn_lines(self):
        for one, other in many_pairs(131, 1):
            self.check(one, other)
            self.check(other, one)

    def test_equal_and_kin_lines(self):
        for one, _ in many_pairs(132, 1):
            line = Line(ratio_rows(one))
            others = [line, risen(line)]
            if line.servers() > 1:
                others.append(moved_down(line, 0, room_down(line, 0)))
            for other in others:
                self.check(one, fractions(other.rows()))
                self.assertEqual((never_later(line, other), later_by(line, other)[0].text()), (True, "0"))

    def test_always_earlier(self):
        one, other = Line([[1, 1]]), Line([[3, 2], [0, 4]])
        self.assertIs(never_later(one, other), True)
        self.assertIs(never_later(other, one), False)
        self.assertEqual(later_by(one, other)[0].text(), "-2")
        self.assertEqual(job_later_by(one, other, 1)[0].text(), "-5")
        self.check(fractions(one.rows()), fractions(other.rows()))
        self.check(fractions([[1]]), fractions([[2]]))

    def test_later_for_one_job_alone(self):
        one, other = Line([[5, 0, 1]]), Line([[5, 0, 0]])
        self.assertEqual(later_by(one, other)[0].text(), "1")
        self.assertEqual([job_later_by(one, other, job)[0].text() for job in range(3)], ["0", "0", "1"])
        one, other = Line([[1, 1, 1]]), Line([[1, 1, 1], [0, 5, 0]])
        self.assertEqual([job_later_by(one, other, job)[0].text() for job in range(3)], ["0", "-5", "0"])
        self.assertEqual([job_later_by(other, one, job)[0].text() for job in range(3)], ["0", "5", "4"])

    def test_by_a_little(self):
        one, other = Line([[LONG, LONG]]), Line([[LONG, Ratio(LONG * LONG - 1, LONG)]])
        self.assertIs(never_later(one, other), False)
        self.assertIs(never_later(other, one), True)
        self.assertEqual(later_by(one, other)[0], Ratio(1, LONG))
        self.assertEqual(later_by(other, one)[0], Ratio(0))
        self.assertEqual(job_later_by(other, one, 1)[0], Ratio(-1, LONG))

    def test_equal_answers_and_new_lists(self):
        one, other = Line([[1, 2], [2, 1]]), Line([[0, 2]])
        same = Line(((Ratio(1), Ratio(4, 2)), (2, Ratio(3, 3))))
        self.assertEqual(shown_later(one, other), shown_later(same, other))
        self.assertEqual(later_by(other, one), later_by(other, same))
        expected = later_by(one, other)
        later_by(one, other)[1].clear()
        shown_later(one, other)[0].clear()
        job_later_by(one, other, 0)[1].clear()
        self.assertEqual(later_by(one, other), expected)
        self.assertEqual(len(shown_later(one, other)[0]), 2)

    def test_full_lines(self):
        source = drawn(133)
        one, other = drawn_rows(source, 4, 6), drawn_rows(source, 4, 6)
        self.check(one, other)


class IsLater(unittest.TestCase):
    def test_drawn_lines(self):
        source = drawn(134)
        for one, other in many_pairs(135, 1):
            lines = [Line(ratio_rows(rows)) for rows in (one, other)]
            for _ in range(3):
                arrivals = drawn_arrivals(source, len(one[0]))
                for job in range(-1, len(one[0]) + 1):
                    expected = 0 <= job < len(one[0]) and serve(one, arrivals)[job] > serve(other, arrivals)[job]
                    self.assertIs(is_later(*lines, (ratios(arrivals), job)), expected)
                    value = (tuple(ratios(arrivals)), job)
                    self.assertIs(is_later(one=lines[0], other=lines[1], value=value), expected)

    def test_near_ones(self):
        one, other = Line([[2, 0], [0, 1]]), Line([[1, 1], [1, 0]])
        for value, expected in (
            (([0, 0], 1), True), (((0, 0), 1), True), (([Ratio(0), 0], 1), True), (([0, 0], 0), False),
            ([[0, 0], 1], False),
            (([0, 0], 1, 0), False), (([0, 0],), False), ((1, [0, 0]), False), (([0], 1), False),
            (([0, 0, 0], 1), False),
            (([0, 0], Ratio(1)), False), (([0, 0], True), False), (([0, True], 1), False), (([0, None], 1), False),
            (([0, 0], "1"), False), (([0, 0], 2), False), (([0, 0], -1), False), (("00", 1), False), (({}, 1), False),
            (([[0, 0]], 1), False), (([0, 2], 1), False), (([0, HALF], 1), True), (([0, 1], 1), True),
            ((0, 0, 1), False), ({"job": 1}, False),
        ):
            self.assertIs(is_later(one, other, value), expected, value)
            self.assertIs(is_later(other, one, value), False)

    def test_equal_ends(self):
        line = Line([[1, 1], [1, 0]])
        self.assertIs(is_later(line, line, ([0, 0], 1)), False)
        self.assertIs(is_later(Line([[Ratio(LONG + 1, LONG)]]), Line([[1]]), ([0], 0)), True)

    def test_any_values(self):
        one, other = Line([[2, 0], [0, 1]]), Line([[1, 1], [1, 0]])
        for value in odd_values() + strange_values():
            self.assertIs(is_later(one, other, value), False)
            self.assertIs(is_later(one, other, (value, 1)), False)
            self.assertIs(is_later(one, other, ([0, value], 1)), type(value) in (int, Ratio) and value != 7 and (
                serve(fractions(one.rows()), [0, fraction(value)])[1]
                > serve(fractions(other.rows()), [0, fraction(value)])[1]))
            if type(value) is not int:
                self.assertIs(is_later(one, other, ([0, 0], value)), False)


class ByTurns(unittest.TestCase):
    def test_drawn_lines(self):
        source = drawn(136)
        for one, other in many_pairs(137, 1):
            lines = [Line(ratio_rows(rows)) for rows in (one, other)]
            arrivals = drawn_arrivals(source, len(one[0]))
            told = by_turns(*lines, ratios(arrivals))
            check_texts(self, told, [number.text() for number in told])
            expected = [end - another for end, another in zip(serve(one, arrivals), serve(other, arrivals))]
            self.assertEqual([fraction(number) for number in told], expected)
            self.assertEqual(by_turns(one=lines[0], other=lines[1], arrivals=tuple(ratios(arrivals))), told)
            most, least = later_by(*lines)[0], -later_by(*lines[::-1])[0]
            for job, number in enumerate(told):
                self.assertTrue(least <= number <= most)
                self.assertTrue(number <= job_later_by(*lines, job)[0])

    def test_long_numbers(self):
        told = by_turns(Line([[LONG, 1]]), Line([[1, Ratio(1, LONG)]]), [0, LONG])
        self.assertEqual(told, [Ratio(LONG - 1), Ratio(LONG - 1, LONG)])

    def test_lists_are_new(self):
        one, other, arrivals = Line([[2, 0], [0, 1]]), Line([[1, 1], [1, 0]]), [0, 0]
        told = by_turns(one, other, arrivals)
        self.assertEqual(arrivals, [0, 0])
        arrivals[0] = None
        self.assertEqual([number.text() for number in told], ["0", "1"])
        told.clear()
        self.assertEqual(len(by_turns(one, other, [0, 0])), 2)

    def test_wrong_arrivals(self):
        for jobs in (1, 2, 6):
            one, other = Line([[1] * jobs] * 2), Line([[1] * jobs] * 3)
            wrong = [value for value in odd_values() if value not in ([0] * jobs, (0,) * jobs)]
            wrong += [[0] * (jobs + 1), [0] * (jobs - 1), [0] * (jobs - 1) + [None], [True] * jobs, "0" * jobs]
            for value in wrong:
                check_raises(self, BadArrivals, value, lambda: by_turns(one, other, value))
                check_raises(self, BadArrivals, value, lambda: by_turns(one=one, other=other, arrivals=value))


class UnlikeLines(unittest.TestCase):
    def test_numbers_of_jobs(self):
        for servers, others, jobs, more in itertools.product((1, 2, 4), (1, 2, 4), range(1, 7), range(1, 7)):
            one, other = Line([[1] * jobs] * servers), Line([[1] * more] * others)
            if jobs == more:
                self.assertIs(never_later(one, other), servers <= others)
                continue
            for told in (never_later, shown_later, later_by):
                check_raises_plain(self, Unlike, lambda: told(one, other))
                check_raises_plain(self, Unlike, lambda: told(one=one, other=other))
            for value in (([0] * jobs, 0), None, 0, object()):
                check_raises_plain(self, Unlike, lambda: is_later(one, other, value))
                check_raises_plain(self, Unlike, lambda: is_later(one=one, other=other, value=value))

    def test_ahead_of_other_errors(self):
        one, other = Line([[1, 1]] * 2), Line([[1]] * 2)
        for value in odd_values():
            check_raises_plain(self, Unlike, lambda: job_later_by(one, other, value))
            check_raises_plain(self, Unlike, lambda: job_later_by(one=one, other=other, job=value))
            check_raises_plain(self, Unlike, lambda: by_turns(one, other, value))
            check_raises_plain(self, Unlike, lambda: by_turns(one=one, other=other, arrivals=value))

    def test_wrong_jobs(self):
        for jobs in (1, 2, 6):
            one, other = Line([[1] * jobs] * 2), Line([[1] * jobs] * 3)
            for value in values_but(int) + [-1, jobs, jobs + 1, 10 ** 45, Ratio(0)]:
                check_raises(self, BadJob, value, lambda: job_later_by(one, other, value))
                check_raises(self, BadJob, value, lambda: job_later_by(one=one, other=other, job=value))


class Direction(unittest.TestCase):
    def test_told_lines(self):
        line, other = Line([[1, 1], [1, 0]]), Line([[2, 0], [0, 1]])
        self.assertEqual([number.text() for number in by_turns(line, other, [0, 0])], ["0", "-1"])
        self.assertEqual(shown_later(line, other), None)
        arrivals, job = shown_later(other, line)
        self.assertEqual(job, 1)
        self.assertIs(is_later(other, line, (arrivals, job)), True)
        self.assertEqual(fraction(later_by(line, other)[0]), Fraction(0))
