"""Points [5], [70] to [73], and [9], [10] for them: one time more or less."""

import itertools
import unittest
from fractions import Fraction

from tandems.errors import BadArrivals, BadJob, BadNumber, BadPlace
from tandems.lines import Line, ends
from tandems.ratios import Ratio
from tandems.slacks import bend, needed, slack, through, with_time
from tests.draws import many_with_numbers, no_numbers
from tests.oracles import drawn, longest_ways, ratio_rows, ratios, serve, way_sum, ways_of_jobs
from tests.support import check_raises, fraction, fractions, odd_values, values_but

LONG = 10 ** 40 - 1
HALF = Ratio(1, 2)
SMALL = [fractions([times[:2], times[2:]]) for times in itertools.product((0, 1, 2), repeat=4)]
# More than any sum of drawn times and of the differences of drawn arrivals.
MUCH = Fraction(100000)


def places_of(rows):
    return list(itertools.product(range(len(rows)), range(len(rows[0]))))


def changed(rows, place, time):
    """The rows with another time at a place."""
    found = [list(row) for row in rows]
    found[place[0]][place[1]] = time
    return found


def no_places(servers, jobs):
    """Values that are no place of a line of this size."""
    return odd_values() + [
        (servers, 0), (0, jobs), (-1, 0), (0, -1), [0, 0], (0,), (0, 0, 0), (Ratio(0), 0), (0, Ratio(0)), (False, 0),
        (0, False), ("0", 0), (0, "0"), (None, 0), (0, None), ((0, 0),), ((0,), 0), (10 ** 45, 0),
        (0, -(10 ** 45)), "00",
        ({}, 0), (0, [0]), (HALF, 0), {"server": 0, "job": 0},
    ]


class WithTime(unittest.TestCase):
    def test_drawn_lines(self):
        source = drawn(111)
        for rows, _ in many_with_numbers(112, 2):
            line = Line(ratio_rows(rows))
            for place in places_of(rows):
                time = Fraction(source.randint(0, 9), source.randint(1, 4))
                given = ratios([time])[0]
                found = with_time(line, place, given)
                self.assertIs(type(found), Line)
                self.assertEqual(fractions(found.rows()), changed(rows, place, time))
                self.assertEqual(with_time(line=line, place=place, time=given), found)
            self.assertEqual(fractions(line.rows()), rows)

    def test_times(self):
        line = Line([[1, 2]])
        for time, expected in ((0, "1 0"), (Ratio(0), "1 0"), (2, "1 2"), (Ratio(4, 2), "1 2"), (HALF, "1 1/2")):
            self.assertEqual(with_time(line, (0, 1), time).text(), expected)
        self.assertEqual(with_time(line, (0, 0), LONG).text(), f"{LONG} 2")

    def test_wrong_places(self):
        for servers, jobs in ((1, 1), (2, 3), (4, 6)):
            line = Line([[1] * jobs] * servers)
            for value in no_places(servers, jobs):
                for time in (1, -1, None):
                    check_raises(self, BadPlace, value, lambda: with_time(line, value, time))
                    check_raises(self, BadPlace, value, lambda: with_time(line=line, place=value, time=time))
            self.assertEqual(line, Line([[1] * jobs] * servers))

    def test_wrong_times(self):
        line = Line([[1, 2], [3, 4]])
        for value in values_but(int, Ratio) + [-1, -LONG, Ratio(-1), Ratio(-1, LONG), HALF - 1]:
            check_raises(self, BadNumber, value, lambda: with_time(line, (1, 1), value))
            check_raises(self, BadNumber, value, lambda: with_time(line=line, place=(1, 1), time=value))


class Through(unittest.TestCase):
    def check(self, rows, first, last, place):
        line = Line(ratio_rows(rows))
        lengths = [way_sum(rows, way) for way in ways_of_jobs(len(rows), first, last) if place in way]
        told = through(line, first, last, place)
        self.assertEqual(through(line=line, first=first, last=last, place=place), told)
        if lengths:
            self.assertEqual((type(told), fraction(told)), (Ratio, max(lengths)))
        else:
            self.assertIsNone(told)

    def test_drawn_lines(self):
        for rows, _ in many_with_numbers(113, 1):
            jobs = len(rows[0])
            for first in range(jobs):
                for last in range(first, jobs):
                    for place in places_of(rows):
                        self.check(rows, first, last, place)

    def test_one_place(self):
        for time in (0, 3):
            self.check(fractions([[time]]), 0, 0, (0, 0))

    def test_small_lines(self):
        for rows in SMALL:
            for place in places_of(rows):
                for first, last in ((0, 0), (0, 1), (1, 1)):
                    self.check(rows, first, last, place)

    def test_wrong_jobs(self):
        for servers, jobs in ((1, 1), (2, 3), (4, 6)):
            line = Line([[1] * jobs] * servers)
            for value in values_but(int) + [-1, jobs, 10 ** 45, Ratio(0)]:
                for place in ((0, 0), None, (9, 9)):
                    check_raises(self, BadJob, value, lambda: through(line, value, 0, place))
                    check_raises(self, BadJob, value, lambda: through(line, value, None, place))
                    check_raises(self, BadJob, value, lambda: through(line, 0, value, place))
                    check_raises(self, BadJob, value, lambda: through(line=line, first=0, last=value, place=place))
        line = Line([[1] * 3] * 2)
        check_raises(self, BadJob, 1, lambda: through(line, 2, 1, (0, 0)))
        check_raises(self, BadJob, 0, lambda: through(line, 1, 0, None))

    def test_wrong_places(self):
        for servers, jobs in ((1, 1), (2, 3), (4, 6)):
            line = Line([[1] * jobs] * servers)
            for value in no_places(servers, jobs):
                check_raises(self, BadPlace, value, lambda: through(line, 0, 0, value))
                check_raises(self, BadPlace, value, lambda: through(line=line, first=0, last=jobs - 1, place=value))


class Bends(unittest.TestCase):
    def check(self, rows, arrivals, place):
        """Check what is told of each end beside the ends with other times."""
        line = Line(ratio_rows(rows))
        given = ratios(arrivals)
        floors = serve(changed(rows, place, Fraction(0)), arrivals)
        far = serve(changed(rows, place, MUCH), arrivals)
        now = serve(rows, arrivals)
        time = rows[place[0]][place[1]]
        spare = slack(line, given, place)
        self.assertIs(type(spare), list)
        self.assertEqual(len(spare), len(rows[0]))
        for job in range(len(rows[0])):
            told = bend(line, given, place, job)
            if job < place[1]:
                self.assertEqual((told, spare[job]), (None, None))
                self.assertEqual(far[job], now[job])
                continue
            self.assertEqual([type(told)] + [type(number) for number in told], [tuple, Ratio, Ratio])
            floor, start = fraction(told[0]), fraction(told[1])
            self.assertEqual((floor, start), (floors[job], floors[job] + MUCH - far[job]))
            self.assertGreaterEqual(start, 0)
            for other in (start, start / 2, start + Fraction(1, 3), time):
                end = serve(changed(rows, place, other), arrivals)[job]
                self.assertEqual(end, floor if other <= start else floor + other - start)
            self.check_slack(rows, arrivals, place, job, spare[job])

    def check_slack(self, rows, arrivals, place, job, told):
        self.assertIs(type(told), Ratio)
        self.assertGreaterEqual(fraction(told), 0)
        now, time = serve(rows, arrivals)[job], rows[place[0]][place[1]]
        self.assertEqual(serve(changed(rows, place, time + fraction(told)), arrivals)[job], now)
        self.assertGreater(serve(changed(rows, place, time + fraction(told) + Fraction(1, 9)), arrivals)[job], now)

    def test_drawn_lines(self):
        for rows, arrivals in many_with_numbers(114, 2):
            for place in places_of(rows):
                self.check(rows, arrivals, place)

    def test_small_lines(self):
        for rows in SMALL[::2]:
            for arrivals in ([0, 0], [0, 2], [1, -1]):
                for place in places_of(rows):
                    self.check(rows, [Fraction(number) for number in arrivals], place)

    def test_names_and_tuples(self):
        line = Line([[1, 0, 2], [2, 1, HALF]])
        told = bend(line=line, arrivals=(0, Ratio(0), 0), place=(0, 2), job=2)
        self.assertEqual(told, bend(line, [0, 0, 0], (0, 2), 2))
        self.assertEqual(slack(line=line, arrivals=(0, 0, Ratio(0)), place=(0, 1)), slack(line, [0, 0, 0], (0, 1)))
        self.assertEqual(slack(line, [0, 0, 0], (1, 2))[:2], [None, None])

    def test_long_numbers(self):
        line = Line([[LONG, 1], [1, Ratio(1, LONG)]])
        floor, start = bend(line, [0, 0], (0, 0), 1)
        self.assertEqual((floor, start), (Ratio(1, LONG) + 1, Ratio(0)))
        self.assertEqual(slack(line, [0, LONG * 2], (0, 0))[1], Ratio(LONG))
        self.assertEqual(slack(line, [0, Ratio(LONG * LONG + 1, LONG)], (0, 0))[1], Ratio(1, LONG))

    def test_lists_are_new(self):
        line = Line([[1, 1], [1, 0]])
        expected = slack(line, [0, 0], (0, 0))
        slack(line, [0, 0], (0, 0)).clear()
        self.assertEqual(slack(line, [0, 0], (0, 0)), expected)
        arrivals = [0, 5]
        found = slack(line, arrivals, (0, 0))
        arrivals[1] = None
        self.assertEqual(found, slack(line, [0, 5], (0, 0)))

    def test_wrong_arrivals(self):
        for servers, jobs in ((1, 1), (2, 3), (4, 6)):
            line = Line([[1] * jobs] * servers)
            for value in no_numbers(jobs):
                for place, job in (((0, 0), 0), (None, None), ((9, 9), 9)):
                    check_raises(self, BadArrivals, value, lambda: bend(line, value, place, job))
                    asked = {"line": line, "arrivals": value, "place": place, "job": job}
                    check_raises(self, BadArrivals, value, lambda: bend(**asked))
                    check_raises(self, BadArrivals, value, lambda: slack(line, value, place))
                    check_raises(self, BadArrivals, value, lambda: slack(line=line, arrivals=value, place=place))

    def test_wrong_places(self):
        for servers, jobs in ((1, 1), (2, 3), (4, 6)):
            line, given = Line([[1] * jobs] * servers), [0] * jobs
            for value in no_places(servers, jobs):
                for job in (0, None, 9):
                    check_raises(self, BadPlace, value, lambda: bend(line, given, value, job))
                    check_raises(self, BadPlace, value, lambda: bend(line=line, arrivals=given, place=value, job=job))
                check_raises(self, BadPlace, value, lambda: slack(line, given, value))
                check_raises(self, BadPlace, value, lambda: slack(line=line, arrivals=given, place=value))

    def test_wrong_jobs(self):
        for servers, jobs in ((1, 1), (2, 3), (4, 6)):
            line, given = Line([[1] * jobs] * servers), [0] * jobs
            for value in values_but(int) + [-1, jobs, jobs + 1, 10 ** 45, Ratio(0)]:
                for place in ((0, 0), (servers - 1, jobs - 1)):
                    check_raises(self, BadJob, value, lambda: bend(line, given, place, value))
                    check_raises(self, BadJob, value, lambda: bend(line=line, arrivals=given, place=place, job=value))


class Needed(unittest.TestCase):
    def check(self, rows, arrivals):
        """Check the places beside lesser times, and beside all ways that tell the end."""
        line = Line(ratio_rows(rows))
        given = ratios(arrivals)
        for job in range(len(rows[0])):
            told = needed(line, given, job)
            self.assertIs(type(told), list)
            for place in told:
                self.assertEqual([type(place)] + [type(item) for item in place], [tuple, int, int])
            end = serve(rows, arrivals)[job]
            self.assertEqual(end, fraction(ends(line, given)[job]))
            expected = []
            for place in places_of(rows):
                time = rows[place[0]][place[1]]
                # An end rises with a time evenly or not at all, so a little less tells of each lesser one.
                if time > 0 and serve(changed(rows, place, time - time / LONG), arrivals)[job] < end:
                    expected.append(place)
            self.assertEqual(told, expected)
            self.assertEqual(told, self.by_ways(rows, arrivals, job, end))
            self.assertEqual(needed(line=line, arrivals=tuple(given), job=job), told)

    def by_ways(self, rows, arrivals, job, end):
        telling = []
        for first in range(job + 1):
            most, found = longest_ways(rows, first, job)
            if arrivals[first] + most == end:
                telling.extend(found)
        return [
            place for place in places_of(rows)
            if rows[place[0]][place[1]] > 0 and all([place in way for way in telling])
        ]

    def test_drawn_lines(self):
        for rows, arrivals in many_with_numbers(115, 2):
            self.check(rows, arrivals)

    def test_small_lines(self):
        for rows in SMALL:
            for arrivals in ([0, 0], [0, 2], [2, 0], [0, 1]):
                self.check(rows, [Fraction(number) for number in arrivals])

    def test_all_times_nought(self):
        for servers, jobs in ((1, 1), (4, 6)):
            self.check(fractions([[0] * jobs] * servers), [Fraction(0)] * jobs)
            self.assertEqual(needed(Line([[0] * jobs] * servers), [0] * jobs, jobs - 1), [])

    def test_two_ways_tell_the_end(self):
        line = Line([[1, 1], [1, 1]])
        self.assertEqual(needed(line, [0, 0], 1), [(0, 0), (1, 1)])
        self.assertEqual(needed(line, [0, 1], 1), [(1, 1)])
        self.assertEqual(needed(line, [0, 9], 1), [(0, 1), (1, 1)])
        self.assertEqual(needed(line, [0, 0], 0), [(0, 0), (1, 0)])

    def test_lists_are_new(self):
        line = Line([[1, 1], [1, 0]])
        expected = needed(line, [0, 0], 1)
        needed(line, [0, 0], 1).clear()
        self.assertEqual(needed(line, [0, 0], 1), expected)

    def test_wrong_arrivals(self):
        for servers, jobs in ((1, 1), (2, 3), (4, 6)):
            line = Line([[1] * jobs] * servers)
            for value in no_numbers(jobs):
                for job in (0, None, 9):
                    check_raises(self, BadArrivals, value, lambda: needed(line, value, job))
                    check_raises(self, BadArrivals, value, lambda: needed(line=line, arrivals=value, job=job))

    def test_wrong_jobs(self):
        for servers, jobs in ((1, 1), (2, 3), (4, 6)):
            line, given = Line([[1] * jobs] * servers), [0] * jobs
            for value in values_but(int) + [-1, jobs, jobs + 1, 10 ** 45, Ratio(0)]:
                check_raises(self, BadJob, value, lambda: needed(line, given, value))
                check_raises(self, BadJob, value, lambda: needed(line=line, arrivals=given, job=value))
