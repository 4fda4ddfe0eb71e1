"""Points [4], [15], and the first main statement of [8]: when jobs leave."""

import itertools
import unittest

from tandems.errors import BadArrivals
from tandems.lines import Line, ends, leavings
from tandems.ratios import Ratio
from tests.oracles import ways
from tests.support import check_raises, check_texts, fraction, fractions, odd_values, values_but

LONG = 10 ** 40 - 1
HALF = Ratio(1, 2)


def by_ways(rows, arrivals):
    """When each job leaves each server, as the greatest ways tell it."""
    table = fractions(rows)
    coming = [fraction(arrival) for arrival in arrivals]
    found = []
    for server in range(len(table)):
        found.append([
            max([
                coming[first] + sum([table[at][of] for at, of in way])
                for first in range(job + 1) for way in ways((0, first), (server, job))
            ])
            for job in range(len(coming))
        ])
    return found


class Leavings(unittest.TestCase):
    def check(self, rows, arrivals):
        line = Line(rows)
        answer = leavings(line, arrivals)
        self.assertIs(type(answer), list)
        self.assertEqual(len(answer), line.servers())
        for row in answer:
            check_texts(self, row, [number.text() for number in row])
        self.assertEqual(fractions(answer), by_ways(rows, arrivals))
        check_texts(self, ends(line, arrivals), [number.text() for number in answer[-1]])

    def test_small_lines(self):
        times, arrivals = (0, 1, Ratio(5, 2)), (-3, 0, HALF, 2)
        for upper in itertools.product(times, repeat=2):
            for lower in itertools.product(times, repeat=2):
                for coming in itertools.product(arrivals, repeat=2):
                    self.check([upper, lower], list(coming))

    def test_all_sizes(self):
        for servers, jobs in itertools.product(range(1, 5), range(1, 7)):
            rows = [[Ratio((5 * server + 3 * job) % 7, 1 + job % 2) for job in range(jobs)] for server in range(servers)]
            for arrivals in (
                [0] * jobs, [-4] * jobs, list(range(jobs)), list(range(jobs, 0, -1)), [3 * job for job in range(jobs)],
                [Ratio((job * job) % 5 - 2, 3) for job in range(jobs)], [10 ** 40 * (-1) ** job for job in range(jobs)],
            ):
                self.check(rows, arrivals)

    def test_one_server_one_job(self):
        for arrival, expected in ((0, "3"), (-5, "-2"), (HALF, "7/2"), (LONG, str(LONG + 3))):
            check_texts(self, ends(Line([[3]]), [arrival]), [expected])

    def test_arrivals_below_nought(self):
        answer = leavings(Line([[1, 2], [3, 0]]), [-10, -20])
        check_texts(self, answer[0], ["-9", "-7"])
        check_texts(self, answer[1], ["-6", "-6"])

    def test_falling_arrivals(self):
        answer = leavings(Line([[1, 1, 1], [2, 0, 1]]), [5, 3, 0])
        check_texts(self, answer[0], ["6", "7", "8"])
        check_texts(self, answer[1], ["8", "8", "9"])

    def test_equal_arrivals(self):
        answer = leavings(Line([[1, 1, 1], [2, 0, 1]]), [5, 5, 5])
        check_texts(self, answer[0], ["6", "7", "8"])
        check_texts(self, answer[1], ["8", "8", "9"])

    def test_times_of_nought(self):
        check_texts(self, ends(Line([[0, 0, 0], [0, 0, 0]]), [2, 1, 3]), ["2", "2", "3"])

    def test_any_number_may_wait(self):
        answer = leavings(Line([[0, 0, 0, 0], [9, 1, 1, 1]]), [0, 0, 0, 0])
        check_texts(self, answer[0], ["0", "0", "0", "0"])
        check_texts(self, answer[1], ["9", "10", "11", "12"])

    def test_no_job_overtakes(self):
        answer = leavings(Line([[5, 1], [1, 1]]), [10, 0])
        check_texts(self, answer[0], ["15", "16"])
        check_texts(self, answer[1], ["16", "17"])

    def test_names_and_tuples(self):
        line = Line([[1, 2], [3, HALF]])
        self.assertEqual(leavings(line=line, arrivals=(0, 1)), leavings(line, [0, Ratio(1)]))
        self.assertEqual(ends(arrivals=(0, 1), line=line), ends(line, [0, 1]))
        self.assertEqual(ends(line, (0, 1)), leavings(line, (0, 1))[1])


class Unchanged(unittest.TestCase):
    def test_nothing_passed_is_changed_or_kept(self):
        line, arrivals = Line([[1, 2], [3, 0]]), [5, HALF]
        first, last = leavings(line, arrivals), ends(line, arrivals)
        self.assertEqual(arrivals, [5, HALF])
        self.assertIs(type(arrivals[0]), int)
        arrivals[0] = 100
        self.assertEqual(fractions(first + [last]), [[6, 8], [9, 9], [9, 9]])
        self.assertEqual(line.text(), "1 2\n3 0")

    def test_lists_are_new(self):
        line, arrivals = Line([[1, 2], [3, 0]]), [5, 0]
        first = leavings(line, arrivals)
        first[0][0] = first[1][1] = None
        first.append(None)
        ends(line, arrivals)[0] = None
        self.assertEqual(fractions(leavings(line, arrivals)), [[6, 8], [9, 9]])
        self.assertEqual(fractions([ends(line, arrivals)]), [[9, 9]])
        self.assertEqual(line.text(), "1 2\n3 0")


class WrongArrivals(unittest.TestCase):
    def check(self, line, arrivals):
        for told in (leavings, ends):
            check_raises(self, BadArrivals, arrivals, lambda: told(line, arrivals))
            check_raises(self, BadArrivals, arrivals, lambda: told(line=line, arrivals=arrivals))

    def test_no_list(self):
        for line in (Line([[1]]), Line([[1, 2, 3], [0, 0, 0]])):
            for value in values_but(list, tuple):
                self.check(line, value)

    def test_no_such_list(self):
        for value in odd_values():
            self.check(Line([[1, 2, 3]]), value)
            if value not in ([0], (0,)):
                self.check(Line([[1], [2]]), value)

    def test_too_few_and_too_many(self):
        for jobs, many in itertools.product(range(1, 7), range(9)):
            line = Line([[1] * jobs])
            if many == jobs:
                self.assertEqual(len(ends(line, [0] * many)), jobs)
            else:
                self.check(line, [0] * many)
                self.check(line, (0,) * many)

    def test_no_numbers_within(self):
        for value in odd_values():
            if value.__class__ not in (int, Ratio):
                for arrivals in ([value, 0], [0, value], (0, value), [value, value]):
                    self.check(Line([[1, 2], [0, 1]]), arrivals)

    def test_dicts_and_strings_of_fitting_length(self):
        for value in ("12", {"0": 0, "1": 0}, "00", [[0, 0]], [[0], [0]], "  "):
            self.check(Line([[1, 2]]), value)
