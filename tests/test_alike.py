"""Points [8], [22], and [9], [10] for them: lines that serve alike, and arrivals that part them."""

import itertools
import unittest

from tandems.errors import Unlike
from tandems.lines import Line, ends
from tandems.ratios import Ratio
from tandems.ways import alike, is_parting, parting
from tests.oracles import drawn, drawn_arrivals, drawn_rows, ratio_rows, ratios, reaches_by_ways, serve
from tests.support import check_raises_plain, check_texts, fraction, fractions, odd_values, strange_values, values_but

LONG = 10 ** 40 - 1
HALF = Ratio(1, 2)


class Alike(unittest.TestCase):
    def check(self, rows, others):
        one, other = Line(ratio_rows(rows)), Line(ratio_rows(others))
        expected = reaches_by_ways(rows) == reaches_by_ways(others)
        self.assertIs(alike(one, other), expected)
        self.assertIs(alike(other, one), expected)
        for first, second, their, theirs in ((one, other, rows, others), (other, one, others, rows)):
            arrivals = parting(first, second)
            if expected:
                self.assertIsNone(arrivals)
            else:
                check_texts(self, arrivals, [number.text() for number in arrivals])
                coming = [fraction(number) for number in arrivals]
                self.assertEqual(len(coming), len(rows[0]))
                self.assertNotEqual(serve(their, coming), serve(theirs, coming))
                self.assertIs(is_parting(first, second, arrivals), True)
        return expected

    def test_small_lines(self):
        tables = [fractions([times[:2], times[2:]]) for times in itertools.product((0, 1, 2), repeat=4)]
        found = [self.check(one, other) for one, other in itertools.product(tables[::2], tables)]
        self.assertIn(True, found)
        self.assertIn(False, found)

    def test_three_jobs(self):
        tables = [fractions([times[:3], times[3:]]) for times in itertools.product((0, 1), repeat=6)]
        found = [self.check(one, other) for one, other in itertools.product(tables[::3], tables)]
        self.assertGreater(found.count(True), len(tables) // 3)

    def test_unlike_numbers_of_servers(self):
        short = [fractions([times]) for times in itertools.product((0, 1, 3), repeat=2)]
        middle = [fractions([times[:2], times[2:]]) for times in itertools.product((0, 1, 3), repeat=4)]
        long = [fractions([times[:2], times[2:4], times[4:]]) for times in itertools.product((0, 1), repeat=6)]
        self.assertIn(True, [self.check(one, other) for one, other in itertools.product(short, middle)])
        self.assertIn(True, [self.check(one, other) for one, other in itertools.product(middle[::5], long)])

    def test_drawn_lines(self):
        source = drawn(11)
        for jobs in range(1, 7):
            for one, other in itertools.product(range(1, 5), repeat=2):
                for _ in range(3):
                    self.check(drawn_rows(source, one, jobs), drawn_rows(source, other, jobs))

    def test_one_time_more(self):
        source = drawn(12)
        for servers, jobs in itertools.product(range(1, 5), range(1, 7)):
            rows = drawn_rows(source, servers, jobs)
            for server, job in itertools.product(range(servers), range(jobs)):
                others = [list(row) for row in rows]
                others[server][job] += fraction(Ratio(1, 7))
                # The reach of the job to itself rises with each of its times.
                self.assertFalse(self.check(rows, others))

    def test_servers_of_noughts(self):
        source = drawn(13)
        for jobs in range(1, 7):
            for _ in range(5):
                rows = drawn_rows(source, 2, jobs)
                for at in range(3):
                    others = rows[:at] + [[0] * jobs] + rows[at:]
                    self.check(rows, fractions(others))
                self.assertTrue(self.check(rows[:1], fractions([[0] * jobs] * 3) + rows[:1]))
                self.assertTrue(self.check(rows, rows))

    def test_the_middle_alone(self):
        # Only the reach of the middle job to itself is unlike.
        one, other = Line([[5, 1, 0], [0, 0, 5]]), Line([[5, 0, 0], [0, 0, 5]])
        self.assertIs(alike(one, other), False)
        coming = parting(one, other)
        self.assertIs(is_parting(one, other, coming), True)
        self.assertNotEqual(ends(one, coming), ends(other, coming))
        # Only the reach of the first job to the last one is unlike.
        one, other = Line([[1, 0], [0, 1]]), Line([[0, 1], [1, 0]])
        self.assertIs(alike(one, other), False)
        self.assertIs(is_parting(one, other, parting(one, other)), True)

    def test_ends_for_many_arrivals(self):
        source = drawn(14)
        rows, others = fractions([[1, 1], [1, 0]]), fractions([[0, 1], [2, 0]])
        self.assertTrue(self.check(rows, others))
        for _ in range(50):
            coming = drawn_arrivals(source, 2)
            self.assertEqual(serve(rows, coming), serve(others, coming))
            self.assertIs(is_parting(Line(ratio_rows(rows)), Line(ratio_rows(others)), ratios(coming)), False)

    def test_long_numbers(self):
        one, other = Line([[LONG, 0], [0, LONG]]), Line([[LONG, 0], [0, Ratio(LONG * LONG + 1, LONG)]])
        self.assertIs(alike(one, other), False)
        self.assertIs(alike(one, Line([[LONG, 0], [0, LONG]])), True)
        self.assertIs(is_parting(one, other, parting(one, other)), True)

    def test_names_and_equal_answers(self):
        one, other = Line([[1, 1], [1, 0]]), Line([[1, 1], [1, 1]])
        same = Line(((Ratio(1), 1), (1, Ratio(0))))
        self.assertIs(alike(one=one, other=other), False)
        self.assertIs(alike(other=same, one=one), True)
        self.assertEqual(parting(one=one, other=other), parting(same, Line([[1, 1], [1, Ratio(1)]])))
        self.assertIsNone(parting(other=same, one=one))
        self.assertIs(is_parting(one=one, other=other, value=parting(one, other)), True)
        self.assertIs(is_parting(value=[0, 0], other=same, one=one), False)

    def test_lists_are_new(self):
        one, other = Line([[1, 1], [1, 0]]), Line([[1, 1], [1, 1]])
        answer = parting(one, other)
        answer[0] = None
        answer.clear()
        self.assertIs(is_parting(one, other, parting(one, other)), True)
        self.assertEqual([one.text(), other.text()], ["1 1\n1 0", "1 1\n1 1"])


class IsParting(unittest.TestCase):
    def test_all_arrivals(self):
        source = drawn(15)
        seen = []
        for jobs in range(1, 7):
            for one, other in itertools.product(range(1, 5), repeat=2):
                rows, others = drawn_rows(source, one, jobs), drawn_rows(source, other, jobs)
                for _ in range(4):
                    coming = drawn_arrivals(source, jobs)
                    expected = serve(rows, coming) != serve(others, coming)
                    seen.append(expected)
                    for value in (ratios(coming), tuple(ratios(coming))):
                        self.assertIs(is_parting(Line(ratio_rows(rows)), Line(ratio_rows(others)), value), expected)
        self.assertIn(True, seen)
        self.assertIn(False, seen)

    def test_arrivals_that_part_nothing(self):
        # The second job needs longer in the one line, which shows only if it does not wait anyway.
        one, other = Line([[0, 1], [5, 1]]), Line([[0, 0], [5, 1]])
        self.assertIs(is_parting(one, other, [0, 0]), False)
        self.assertIs(is_parting(one, other, [0, 4]), False)
        self.assertIs(is_parting(one, other, [0, Ratio(9, 2)]), True)
        self.assertIs(is_parting(one, other, (0, 5)), True)
        self.assertIs(is_parting(one, other, [-10, 0]), True)

    def test_any_end_counts(self):
        one = Line([[1, 1, 1]])
        for job in range(3):
            other = Line([[2 if job == at else 1 for at in range(3)]])
            self.assertIs(is_parting(one, other, [0, 10, 20]), True)
            self.assertIs(is_parting(other, one, [0, 10, 20]), True)
        # The first end alone is unlike, for the second job comes later.
        self.assertIs(is_parting(Line([[2, 1]]), Line([[1, 1]]), [0, 10]), True)

    def test_other_lengths(self):
        one, other = Line([[1, 1]]), Line([[2, 2]])
        for many in range(9):
            self.assertIs(is_parting(one, other, [0] * many), many == 2)
            self.assertIs(is_parting(one, other, (0,) * many), many == 2)

    def test_other_kinds(self):
        one, other = Line([[1, 1]]), Line([[2, 2]])
        for value in odd_values() + strange_values():
            self.assertIs(is_parting(one, other, value), False)
            self.assertIs(is_parting(one, one, value), False)
        for item in values_but(int, Ratio) + strange_values():
            for value in ([item, 0], [0, item], (0, item), [item, item]):
                self.assertIs(is_parting(one, other, value), False)
        for value in ({0: 0, 1: 0}, {0, 1}, "00", b"00", range(2), iter([0, 0]), [[0, 0]], [(0, 0)]):
            self.assertIs(is_parting(one, other, value), False)
        for value in ([0, 0], (-1, HALF), [Ratio(0), LONG]):
            self.assertIs(is_parting(one, other, value), True)

    def test_unchanged(self):
        one, other, value = Line([[1, 1]]), Line([[2, 2]]), [0, HALF]
        self.assertIs(is_parting(one, other, value), True)
        self.assertEqual([type(item) for item in value], [int, Ratio])
        self.assertEqual(value, [0, HALF])


class UnlikeLines(unittest.TestCase):
    def test_unlike_numbers_of_jobs(self):
        for servers, others, jobs, more in itertools.product(range(1, 5), range(1, 5), range(1, 7), range(1, 7)):
            one, other = Line([[1] * jobs] * servers), Line([[1] * more] * others)
            if jobs == more:
                alike(one, other), parting(one, other), is_parting(one, other, [0] * jobs)
            else:
                check_raises_plain(self, Unlike, lambda: alike(one, other))
                check_raises_plain(self, Unlike, lambda: parting(one=one, other=other))
                for value in (None, [0] * jobs, [0] * more):
                    check_raises_plain(self, Unlike, lambda: is_parting(one, other, value))

    def test_ahead_of_any_value(self):
        for value in odd_values():
            check_raises_plain(self, Unlike, lambda: is_parting(Line([[1]]), Line([[1, 1]]), value))
