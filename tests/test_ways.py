"""Points [5], [20], [21], and [9], [10] for them: ways, reaches, and ends by ways."""

import itertools
import unittest

from tandems.errors import BadArrivals, BadJob
from tandems.lines import Line, ends
from tandems.ratios import Ratio
from tandems.ways import is_longest, longest, reach, reaches, told_by
from tests.oracles import (
    drawn, drawn_arrivals, drawn_rows, longest_ways, ratio_rows, ratios, reaches_by_ways, serve, way_sum, ways_of_jobs,
)
from tests.support import check_raises, check_texts, fraction, fractions, odd_values, strange_values, values_but

LONG = 10 ** 40 - 1
HALF = Ratio(1, 2)
SIZES = list(itertools.product(range(1, 5), range(1, 7)))


def stretches(jobs):
    return [(first, last) for first in range(jobs) for last in range(first, jobs)]


def many_rows(seed, draws):
    """Drawn lines of all sizes, and lines of noughts and of ones, in which ways are equally long."""
    source = drawn(seed)
    for servers, jobs in SIZES:
        yield fractions([[0] * jobs] * servers)
        yield fractions([[1] * jobs] * servers)
        for _ in range(draws):
            yield drawn_rows(source, servers, jobs)


class Reaches(unittest.TestCase):
    def check(self, rows):
        line = Line(ratio_rows(rows))
        answer = reaches(line)
        self.assertIs(type(answer), list)
        for row in answer:
            check_texts(self, row, [number.text() for number in row])
        self.assertEqual(fractions(answer), reaches_by_ways(rows))
        for first, last in stretches(len(rows[0])):
            number = reach(line, first, last)
            self.assertIs(type(number), Ratio)
            self.assertEqual(number, answer[first][last - first])

    def test_by_all_ways(self):
        for rows in many_rows(1, 6):
            self.check(rows)

    def test_small_lines(self):
        for times in itertools.product((0, 1, 3), repeat=6):
            self.check(fractions([times[:3], times[3:]]))
            self.check(fractions([times[:2], times[2:4], times[4:]]))

    def test_the_same_job(self):
        line = Line([[1, 5, 0], [HALF, 2, 0]])
        self.assertEqual([reach(line, job, job).text() for job in range(3)], ["3/2", "7", "0"])

    def test_one_server(self):
        self.assertEqual([[number.text() for number in row] for row in reaches(Line([[1, 2, HALF]]))],
                         [["1", "3", "7/2"], ["2", "5/2"], ["1/2"]])

    def test_one_job(self):
        self.assertEqual([[number.text() for number in row] for row in reaches(Line([[1], [2], [0], [HALF]]))], [["7/2"]])

    def test_long_numbers(self):
        line = Line([[LONG, 0], [Ratio(1, LONG), LONG]])
        self.assertEqual(fraction(reach(line, 0, 1)), 2 * LONG + fraction(Ratio(1, LONG)))

    def test_names_and_kinds(self):
        line = Line([[1, 0, 2], [2, 1, HALF]])
        self.assertEqual(reach(line=line, first=1, last=2).text(), "5/2")
        self.assertEqual(reach(last=2, first=0, line=line).text(), "9/2")
        self.assertEqual(reaches(line=line), reaches(Line(((1, 0, 2), (Ratio(2), 1, Ratio(2, 4))))))

    def test_lists_are_new(self):
        line = Line([[1, 0, 2], [2, 1, HALF]])
        answer = reaches(line)
        answer[0][0] = answer[2][0] = None
        answer.pop(1)
        self.assertEqual([[number.text() for number in row] for row in reaches(line)],
                         [["3", "4", "9/2"], ["1", "5/2"], ["5/2"]])
        self.assertEqual(line.text(), "1 0 2\n2 1 1/2")


class Longest(unittest.TestCase):
    def check(self, rows):
        line = Line(ratio_rows(rows))
        for first, last in stretches(len(rows[0])):
            way = longest(line, first, last)
            self.assertIs(type(way), list)
            for place in way:
                self.assertIs(type(place), tuple)
                self.assertEqual([type(index) for index in place], [int, int])
            self.assertIn(way, longest_ways(rows, first, last)[1])
            self.assertIs(is_longest(line, first, last, way), True)

    def test_by_all_ways(self):
        for rows in many_rows(2, 6):
            self.check(rows)

    def test_small_lines(self):
        for times in itertools.product((0, 1, 3), repeat=6):
            self.check(fractions([times[:3], times[3:]]))
            self.check(fractions([times[:2], times[2:4], times[4:]]))

    def test_the_only_way(self):
        self.assertEqual(longest(Line([[0, 0, 0]]), 0, 2), [(0, 0), (0, 1), (0, 2)])
        self.assertEqual(longest(Line([[0], [0], [0]]), 0, 0), [(0, 0), (1, 0), (2, 0)])
        self.assertEqual(longest(Line([[0, 0], [0, 0]]), 1, 1), [(0, 1), (1, 1)])
        self.assertEqual(longest(Line([[5]]), 0, 0), [(0, 0)])

    def test_the_longest_way_alone(self):
        line = Line([[1, 0, 2], [2, 1, HALF]])
        self.assertEqual(longest(line, 0, 2), [(0, 0), (1, 0), (1, 1), (1, 2)])
        self.assertEqual(longest(line=line, first=1, last=2), [(0, 1), (0, 2), (1, 2)])
        self.assertEqual(longest(last=1, line=line, first=0), [(0, 0), (1, 0), (1, 1)])

    def test_equal_answers(self):
        for rows in many_rows(3, 2):
            last = len(rows[0]) - 1
            one = longest(Line(ratio_rows(rows)), 0, last)
            other = Line([[Ratio(time.numerator, time.denominator) for time in row] for row in rows])
            self.assertEqual(longest(other, 0, last), one)
            one.reverse()
            one.append(None)
            self.assertEqual(longest(other, 0, last), longest(other, 0, last))
            self.assertIs(is_longest(other, 0, last, longest(other, 0, last)), True)


def changes(way, servers, jobs):
    """Values near a way: with one place changed, left out, twice, or exchanged with the next one."""
    for at in range(len(way)):
        for place in itertools.product(range(-1, servers + 1), range(-1, jobs + 1)):
            yield way[:at] + [place] + way[at + 1:]
            yield way[:at] + [place] + way[at:]
        yield way[:at] + way[at + 1:]
        yield way[:at] + way[at:at + 1] + way[at:]
        yield way[:at] + way[at:at + 2][::-1] + way[at + 2:]
        yield way[:at]
    yield way[::-1]
    yield way + way
    for place in itertools.product(range(-1, servers + 1), range(-1, jobs + 1)):
        yield way + [place]


def other_kinds(way):
    """Values with the numbers of a way, of which one or all are of other kinds."""
    for at, (server, job) in enumerate(way):
        for place in (
            [server, job], (Ratio(server), job), (server, Ratio(job)), (server, job, 0), (server,), (), None,
            (server, job, None), (str(server), job), (server, str(job)), f"{server}{job}", {server: job},
            (None, job), (server, None), ((server, job),), (server, [job]), (float(server), job), (server, Ratio(2 * job + 1, 2)),
        ):
            yield way[:at] + [place] + way[at + 1:]
        if server < 2:
            yield way[:at] + [(server == 1, job)] + way[at + 1:]
        if job < 2:
            yield way[:at] + [(server, job == 1)] + way[at + 1:]
    yield [list(place) for place in way]
    yield [(Ratio(server), Ratio(job)) for server, job in way]
    yield {place: None for place in way}
    yield set(way)
    yield {"way": way}
    yield [way]
    yield (way,)
    yield str(way)
    yield iter(way)


class IsLongest(unittest.TestCase):
    def test_all_ways(self):
        for rows in many_rows(4, 2):
            line = Line(ratio_rows(rows))
            for first, last in stretches(len(rows[0])):
                most = longest_ways(rows, first, last)[0]
                for way in ways_of_jobs(len(rows), first, last):
                    expected = way_sum(rows, way) == most
                    self.assertIs(is_longest(line, first, last, way), expected)
                    self.assertIs(is_longest(line, first, last, tuple(way)), expected)

    def test_near_ones(self):
        source = drawn(5)
        for servers, jobs in ((1, 1), (1, 6), (4, 1), (2, 3), (3, 2), (4, 6)):
            for rows in (fractions([[0] * jobs] * servers), drawn_rows(source, servers, jobs)):
                line = Line(ratio_rows(rows))
                for first, last in {(0, jobs - 1), (0, 0), (jobs - 1, jobs - 1), (jobs // 2, jobs - 1)}:
                    right = longest_ways(rows, first, last)[1]
                    for value in changes(longest(line, first, last), servers, jobs):
                        self.assertIs(is_longest(line, first, last, value), value in right, (rows, value))

    def test_ways_of_other_jobs(self):
        for rows in (fractions([[0] * 4] * 3), fractions([[1] * 4] * 3)):
            line = Line(ratio_rows(rows))
            for one, other in itertools.product(stretches(4), repeat=2):
                for way in ways_of_jobs(3, *other):
                    self.assertIs(is_longest(line, *one, way), one == other)

    def test_ways_of_other_servers(self):
        line = Line([[0, 0, 0], [0, 0, 0], [0, 0, 0]])
        for start, end in (((0, 0), (1, 2)), ((1, 0), (2, 2)), ((1, 0), (1, 2)), ((0, 0), (3, 2))):
            value = [(server, 0) for server in range(start[0], end[0])] + [(end[0], job) for job in range(3)]
            self.assertIs(is_longest(line, 0, 2, value), False)

    def test_other_kinds(self):
        for line in (Line([[0, 0, 0], [0, 0, 0]]), Line([[1, 0, 2], [2, 1, HALF]])):
            way = [(0, 0), (1, 0), (1, 1), (1, 2)]
            self.assertIs(is_longest(line, 0, 2, way), True)
            for value in other_kinds(way):
                self.assertIs(is_longest(line, 0, 2, value), False, value)

    def test_any_value(self):
        for line in (Line([[0]]), Line([[1, 0, 2], [2, 1, HALF]])):
            for value in odd_values() + strange_values():
                self.assertIs(is_longest(line, 0, 0, value), False)
                self.assertIs(is_longest(line, 0, 0, [value]), False)
                self.assertIs(is_longest(line, 0, 0, [(0, 0), value]), False)
                self.assertIs(is_longest(line, 0, 0, [(value, 0)]), False)
                self.assertIs(is_longest(line, 0, 0, [(0, value)]), False)
        self.assertIs(is_longest(Line([[0]]), 0, 0, [(0, 0)]), True)

    def test_names_and_unchanged(self):
        line, value = Line([[1, 0, 2], [2, 1, HALF]]), [(0, 1), (0, 2), (1, 2)]
        self.assertIs(is_longest(line=line, first=1, last=2, value=value), True)
        self.assertIs(is_longest(value=value, last=2, first=0, line=line), False)
        self.assertEqual(value, [(0, 1), (0, 2), (1, 2)])


class WrongJobs(unittest.TestCase):
    def check(self, line, given, first, last):
        for told in (reach, longest):
            check_raises(self, BadJob, given, lambda: told(line, first, last))
            check_raises(self, BadJob, given, lambda: told(line=line, first=first, last=last))
        for value in ([(0, 0)], [(0, 0), (1, 0)], None, 7):
            check_raises(self, BadJob, given, lambda: is_longest(line, first, last, value))
            check_raises(self, BadJob, given, lambda: is_longest(line=line, first=first, last=last, value=value))

    def bad(self, jobs):
        return values_but(int) + [-1, -jobs, jobs, jobs + 1, 10 ** 45, -(10 ** 45), Ratio(0), Ratio(jobs - 1), 0.0]

    def test_first(self):
        for jobs in (1, 3, 6):
            line = Line([[1] * jobs, [0] * jobs])
            for value in self.bad(jobs):
                self.check(line, value, value, 0)
                self.check(line, value, value, jobs - 1)
                self.check(line, value, value, value)
                # The first job counts ahead of the last one.
                self.check(line, value, value, None)

    def test_last(self):
        for jobs in (1, 3, 6):
            line = Line([[1] * jobs, [0] * jobs])
            for value in self.bad(jobs):
                self.check(line, value, 0, value)
                self.check(line, value, jobs - 1, value)

    def test_last_ahead_of_first(self):
        for jobs in (2, 6):
            line = Line([[1] * jobs, [0] * jobs])
            for first, last in itertools.product(range(jobs), repeat=2):
                if last < first:
                    self.check(line, last, first, last)
                else:
                    self.assertEqual(reach(line, first, last).text(), str(last - first + 1))

    def test_nothing_changes(self):
        line = Line([[1, 2], [3, 4]])
        self.check(line, 2, 0, 2)
        self.assertEqual(line.text(), "1 2\n3 4")


class ToldBy(unittest.TestCase):
    def check(self, rows, arrivals):
        line, given = Line(ratio_rows(rows)), ratios(arrivals)
        answer = told_by(line, given)
        self.assertIs(type(answer), list)
        for told in answer:
            self.assertIs(type(told), tuple)
            self.assertEqual([type(item) for item in told], [Ratio, int])
        table, leaving = reaches_by_ways(rows), serve(rows, arrivals)
        expected = []
        for job, end in enumerate(leaving):
            sums = [arrivals[first] + table[first][job - first] for first in range(job + 1)]
            self.assertEqual(max(sums), end)
            expected.append((end, sums.index(end)))
        self.assertEqual([(fraction(end), first) for end, first in answer], expected)
        self.assertEqual([end for end, _ in answer], ends(line, given))

    def test_drawn_arrivals(self):
        source = drawn(6)
        for rows in many_rows(7, 4):
            for _ in range(3):
                self.check(rows, drawn_arrivals(source, len(rows[0])))

    def test_small_lines(self):
        for times in itertools.product((0, 1), repeat=6):
            for arrivals in itertools.product((-1, 0, 1), repeat=3):
                self.check(fractions([times[:3], times[3:]]), list(arrivals))

    def test_the_least_job(self):
        self.assertEqual([first for _, first in told_by(Line([[0, 0, 0]]), [0, 0, 0])], [0, 0, 0])
        self.assertEqual([first for _, first in told_by(Line([[0, 0, 0]]), [0, HALF, HALF])], [0, 1, 1])
        self.assertEqual([first for _, first in told_by(Line([[1, 1, 1]]), [0, 1, 2])], [0, 0, 0])
        self.assertEqual([first for _, first in told_by(Line([[1, 1, 1]]), [0, Ratio(4, 3), 2])], [0, 1, 1])
        self.assertEqual([first for _, first in told_by(Line([[1, 1, 1]]), [5, 0, -3])], [0, 0, 0])
        self.assertEqual([first for _, first in told_by(Line([[1, 1, 1]]), [0, 9, 18])], [0, 1, 2])

    def test_one_job(self):
        self.assertEqual([(end.text(), first) for end, first in told_by(Line([[1], [2]]), [-HALF])], [("5/2", 0)])

    def test_names_tuples_and_unchanged(self):
        line, arrivals = Line([[1, 0, 2], [2, 1, HALF]]), [0, 0, 5]
        expected = told_by(line, arrivals)
        self.assertEqual(told_by(line=line, arrivals=(0, Ratio(0), Ratio(5))), expected)
        self.assertEqual(told_by(arrivals=arrivals, line=line), expected)
        self.assertEqual([type(arrival) for arrival in arrivals], [int] * 3)
        expected.clear()
        arrivals[2] = -100
        self.assertEqual([(end.text(), first) for end, first in told_by(line, [0, 0, 5])], [("3", 0), ("4", 0), ("15/2", 2)])
        self.assertEqual(line.text(), "1 0 2\n2 1 1/2")

    def test_wrong_arrivals(self):
        for jobs in (1, 2, 6):
            line = Line([[1] * jobs, [0] * jobs])
            wrong = [value for value in odd_values() if value not in ([0], (0,)) and value != [0] * jobs]
            wrong += [[0] * (jobs - 1), [0] * (jobs + 1), (0,) * (jobs + 1), {"0": 0}, "0" * jobs]
            for value in wrong:
                check_raises(self, BadArrivals, value, lambda: told_by(line, value))
                check_raises(self, BadArrivals, value, lambda: told_by(line=line, arrivals=value))
            for item in values_but(int, Ratio):
                for value in ([0] * (jobs - 1) + [item], [item] + [0] * (jobs - 1), (item,) * jobs):
                    check_raises(self, BadArrivals, value, lambda: told_by(line, value))
