"""Points [100] to [103], and [9], [10] for them: lines joined and split, jobs and triangles."""

import itertools
import unittest

from tandems.errors import BadJob, BadServer, BadTimes, BadTriangle, OnlyJob, TooMany, Unlike
from tandems.joins import (
    back_triangle, followed, headed, joined, split, stretch_shape, struck_triangle, without_first, without_last,
)
from tandems.lines import Line
from tandems.ratios import Ratio
from tandems.shapes import triangle
from tandems.turns import risen
from tests.draws import many_rows, walked
from tests.oracles import (
    drawn, drawn_rows, drawn_times, ratio_rows, ratios, reaches_by_ways, shape_by_push, triangle_by_push,
)
from tests.support import (
    check_raises, check_raises_plain, check_texts, fraction, fractions, odd_values, values_but,
)

LONG = 10 ** 40 - 1
HALF = Ratio(1, 2)


def check_too_many(case, count, act):
    with case.assertRaises(TooMany) as caught:
        act()
    case.assertIs(type(caught.exception), TooMany)
    case.assertEqual((type(caught.exception.count), caught.exception.count), (int, count))


class Joined(unittest.TestCase):
    def test_all_sizes(self):
        source = drawn(141)
        for servers, others, jobs in itertools.product(range(1, 5), range(1, 5), range(1, 7)):
            rows, more = drawn_rows(source, servers, jobs), drawn_rows(source, others, jobs)
            one, other = Line(ratio_rows(rows)), Line(ratio_rows(more))
            if servers + others > 4:
                check_too_many(self, servers + others, lambda: joined(one, other))
                check_too_many(self, servers + others, lambda: joined(one=one, other=other))
                continue
            found = joined(one, other)
            self.assertIs(type(found), Line)
            self.assertEqual(fractions(found.rows()), rows + more)
            self.assertEqual(joined(one=one, other=other), found)
            told = split(found, servers - 1)
            self.assertEqual((type(told), told), (tuple, (one, other)))
            self.assertEqual((fractions(one.rows()), fractions(other.rows())), (rows, more))

    def test_reaches_by_the_job_between(self):
        source = drawn(142)
        for servers, others in ((1, 1), (2, 1), (1, 3), (2, 2)):
            for jobs in (1, 3, 6):
                rows, more = drawn_rows(source, servers, jobs), drawn_rows(source, others, jobs)
                mine, theirs = reaches_by_ways(rows), reaches_by_ways(more)
                found = reaches_by_ways(fractions(joined(Line(ratio_rows(rows)), Line(ratio_rows(more))).rows()))
                for first in range(jobs):
                    for last in range(first, jobs):
                        sums = [mine[first][job - first] + theirs[job][last - job] for job in range(first, last + 1)]
                        self.assertEqual(found[first][last - first], max(sums))

    def test_unlike_first(self):
        for servers, others in itertools.product(range(1, 5), range(1, 5)):
            for jobs, more in ((1, 2), (2, 1), (6, 5)):
                one, other = Line([[1] * jobs] * servers), Line([[1] * more] * others)
                check_raises_plain(self, Unlike, lambda: joined(one, other))
                check_raises_plain(self, Unlike, lambda: joined(one=one, other=other))

    def test_itself(self):
        line = Line([[1, 2], [3, HALF]])
        self.assertEqual(joined(line, line).text(), "1 2\n3 1/2\n1 2\n3 1/2")
        self.assertEqual(line.servers(), 2)


class Split(unittest.TestCase):
    def test_all_servers(self):
        for rows in many_rows(143, 1):
            line = Line(ratio_rows(rows))
            for server in range(len(rows) - 1):
                told = split(line, server)
                self.assertEqual([type(told)] + [type(part) for part in told], [tuple, Line, Line])
                self.assertEqual(fractions(told[0].rows()), rows[:server + 1])
                self.assertEqual(fractions(told[1].rows()), rows[server + 1:])
                self.assertEqual(split(line=line, server=server), told)
                self.assertEqual(joined(*told), line)

    def test_wrong_servers(self):
        for servers, jobs in itertools.product(range(1, 5), (1, 6)):
            line = Line([[1] * jobs] * servers)
            for value in values_but(int) + [-1, servers - 1, servers, 10 ** 45, Ratio(0)]:
                check_raises(self, BadServer, value, lambda: split(line, value))
                check_raises(self, BadServer, value, lambda: split(line=line, server=value))


def no_times(servers):
    """Values that are no list of a number from 0 on for each server."""
    wrong = [value for value in odd_values() if value not in ([0] * servers, (0,) * servers)]
    wrong += [[0] * (servers + 1), [0] * (servers - 1), [0] * (servers - 1) + [-1]]
    wrong += [[Ratio(-1, LONG)] + [0] * (servers - 1)]
    wrong += [[None] * servers, [True] + [0] * (servers - 1), "0" * servers, [0] * (servers - 1) + ["0"], {"0": 0}]
    return wrong + [[[0]] * servers, (0,) * (servers - 1) + ((0,),), [[0] * servers]]


class JobsMore(unittest.TestCase):
    def test_drawn_lines(self):
        source = drawn(144)
        for rows in many_rows(145, 2):
            if len(rows[0]) == 6:
                continue
            line, times = Line(ratio_rows(rows)), drawn_times(source, len(rows))
            behind, ahead = followed(line, ratios(times)), headed(line, ratios(times))
            self.assertEqual([type(behind), type(ahead)], [Line, Line])
            self.assertEqual(fractions(behind.rows()), [row + [time] for row, time in zip(rows, times)])
            self.assertEqual(fractions(ahead.rows()), [[time] + row for row, time in zip(rows, times)])
            self.assertEqual(followed(line=line, times=tuple(ratios(times))), behind)
            self.assertEqual(headed(line=line, times=tuple(ratios(times))), ahead)
            self.assertEqual((without_last(behind), without_first(ahead)), (line, line))
            self.assertEqual(fractions(line.rows()), rows)

    def test_nothing_is_kept(self):
        line, times = Line([[1], [2]]), [3, 4]
        behind, ahead = followed(line, times), headed(line, times)
        self.assertEqual(times, [3, 4])
        times[0] = None
        self.assertEqual((behind.text(), ahead.text()), ("1 3\n2 4", "3 1\n4 2"))

    def test_a_seventh_job(self):
        for servers in range(1, 5):
            line = Line([[1] * 6] * servers)
            for told in (followed, headed):
                check_too_many(self, 7, lambda: told(line, [0] * servers))
                check_too_many(self, 7, lambda: told(line=line, times=[HALF] * servers))
                self.assertEqual(told(line.part(0, 4), [1] * servers), line)

    def test_wrong_times(self):
        for servers, jobs in itertools.product((1, 2, 4), (1, 6)):
            line = Line([[1] * jobs] * servers)
            for value in no_times(servers):
                for told in (followed, headed):
                    check_raises(self, BadTimes, value, lambda: told(line, value))
                    check_raises(self, BadTimes, value, lambda: told(line=line, times=value))

    def test_long_numbers(self):
        line = Line([[LONG]])
        self.assertEqual(followed(line, [Ratio(1, LONG)]).text(), f"{LONG} 1/{LONG}")
        self.assertEqual(headed(line, (LONG - 1,)).text(), f"{LONG - 1} {LONG}")


class JobsLess(unittest.TestCase):
    def test_drawn_lines(self):
        for rows in many_rows(146, 1):
            line = Line(ratio_rows(rows))
            if len(rows[0]) == 1:
                for told in (without_last, without_first):
                    check_raises_plain(self, OnlyJob, lambda: told(line))
                    check_raises_plain(self, OnlyJob, lambda: told(line=line))
                continue
            self.assertEqual(fractions(without_last(line).rows()), [row[:-1] for row in rows])
            self.assertEqual(fractions(without_first(line=line).rows()), [row[1:] for row in rows])
            self.assertEqual(without_last(line=line), without_last(line))
            self.assertEqual([type(without_last(line)), type(without_first(line))], [Line, Line])
            self.assertEqual(fractions(line.rows()), rows)


class Triangles(unittest.TestCase):
    def check_table(self, told, expected):
        self.assertIs(type(told), list)
        for row in told:
            check_texts(self, row, [number.text() for number in row])
        self.assertEqual(fractions(told), expected)

    def kin_rows(self, source, line):
        """The rows of a line and of several kin ones."""
        others = [line, risen(line), walked(source, line, 2), walked(source, line, 3)]
        return [fractions(other.rows()) for other in others]

    def test_turned_round(self):
        source = drawn(147)
        for rows in many_rows(148, 2):
            line = Line(ratio_rows(rows))
            table = triangle(line)
            told = back_triangle(table)
            for others in self.kin_rows(source, line):
                self.check_table(told, triangle_by_push([row[::-1] for row in others[::-1]]))
            self.assertEqual(back_triangle(triangle=tuple([tuple(row) for row in table])), told)
            self.assertEqual(back_triangle(told), table)
            self.assertEqual(told, triangle(line.backwards()))

    def test_struck(self):
        source = drawn(149)
        for rows in many_rows(150, 2):
            line = Line(ratio_rows(rows))
            table = triangle(line)
            if len(rows[0]) == 1:
                check_raises_plain(self, OnlyJob, lambda: struck_triangle(table))
                check_raises_plain(self, OnlyJob, lambda: struck_triangle(triangle=table))
                continue
            told = struck_triangle(table)
            for others in self.kin_rows(source, line):
                self.check_table(told, triangle_by_push([row[1:] for row in others]))
            self.assertEqual(struck_triangle(triangle=tuple([tuple(row) for row in table])), told)

    def test_stretches(self):
        source = drawn(151)
        for rows in many_rows(152, 1):
            line = Line(ratio_rows(rows))
            table = triangle(line)
            for first in range(len(rows[0])):
                for last in range(first, len(rows[0])):
                    told = stretch_shape(table, first, last)
                    check_texts(self, told, [number.text() for number in told])
                    for others in self.kin_rows(source, line)[::2]:
                        self.assertEqual([fraction(number) for number in told], shape_by_push(others, first, last))
                    given = tuple([tuple(row) for row in table])
                    self.assertEqual(stretch_shape(triangle=given, first=first, last=last), told)

    def test_one_shape(self):
        self.assertEqual(fractions(back_triangle([[5, 0, 0]])), [[5, 0, 0]])
        self.assertEqual([number.text() for number in stretch_shape([[HALF, 0]], 0, 0)], ["1/2", "0"])
        check_raises_plain(self, OnlyJob, lambda: struck_triangle([[5, 0, 0]]))
        check_raises_plain(self, OnlyJob, lambda: struck_triangle([(0,)]))

    def test_long_numbers(self):
        full = Line([[Ratio(LONG - 7 * job, LONG - 3 * server) for job in range(6)] for server in range(4)])
        table = triangle(full)
        self.assertEqual(back_triangle(table), triangle(full.backwards()))
        self.assertEqual(back_triangle(back_triangle(table)), table)
        self.assertEqual(struck_triangle(table), triangle(full.part(1, 5)))
        self.assertEqual(stretch_shape(table, 2, 4), triangle(full.part(2, 4))[-1])

    def test_lists_are_new(self):
        table = [[2, 0], [2, 1]]
        for told in (back_triangle, struck_triangle):
            expected = told(table)
            found = told(table)
            found[0].clear()
            found.clear()
            self.assertEqual(told(table), expected)
        stretch_shape(table, 0, 1).clear()
        self.assertEqual([number.text() for number in stretch_shape(table, 0, 1)], ["2", "1"])
        self.assertEqual(table, [[2, 0], [2, 1]])

    def test_wrong_triangles(self):
        wrong = [value for value in odd_values()]
        wrong += [[[2, 1]], [[2, 0], [2, 3]], [[-1]], [[1, 0], [0, 0]], [[1, 0], [1]], [[0]] * 7, [[0] * 5]]
        wrong += [[[2, 0], [2, "1"]]]
        wrong += [[[2, True]], [[True, 0]], ((2, 0), (1, 1)), [[Ratio(-1, LONG)]], "21", {"0": [0]}]
        for value in wrong:
            for told in (back_triangle, struck_triangle):
                check_raises(self, BadTriangle, value, lambda: told(value))
                check_raises(self, BadTriangle, value, lambda: told(triangle=value))
            for first, last in ((0, 0), (None, 0), (7, 8), ("0", None)):
                check_raises(self, BadTriangle, value, lambda: stretch_shape(value, first, last))
                check_raises(self, BadTriangle, value, lambda: stretch_shape(triangle=value, first=first, last=last))

    def test_wrong_jobs(self):
        for table in ([[2, 0], [2, 1]], [[3]], [[0] * 4] * 6):
            jobs = len(table)
            for value in values_but(int) + [-1, jobs, jobs + 1, 10 ** 45, Ratio(0)]:
                for last in (0, None, jobs):
                    check_raises(self, BadJob, value, lambda: stretch_shape(table, value, last))
                check_raises(self, BadJob, value, lambda: stretch_shape(table, 0, value))
                check_raises(self, BadJob, value, lambda: stretch_shape(triangle=table, first=0, last=value))
        check_raises(self, BadJob, 0, lambda: stretch_shape([[2, 0], [2, 1]], 1, 0))
