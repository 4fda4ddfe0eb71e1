"""Points [6], [8], [51], and [9], [10] for them: covers."""

import itertools
import unittest
from fractions import Fraction

from tandems.errors import BadCount, BadJob
from tandems.lines import Line
from tandems.ratios import Ratio
from tandems.shapes import cover, is_cover, load
from tests.draws import stretches
from tests.oracles import cover_sum, drawn, drawn_rows, load_by_ways, ratio_rows, ratios
from tests.support import check_raises, fraction, fractions, odd_values, strange_values, values_but

LONG = 10 ** 40 - 1
SMALL = [fractions([times[:3], times[3:]]) for times in itertools.product((0, 1, 2), repeat=6)]
TELLING = (2, [[(0, 1), (1, 2)], [(1, 2), (2, 2)]])


def in_fractions(told):
    """A cover with Fractions for all its numbers."""
    height, heights = told
    return fraction(height), [[(fraction(before), fraction(behind)) for before, behind in row] for row in heights]


def in_ratios(told):
    """A cover with numbers for the package for all its Fractions."""
    height, heights = told
    return ratios([height])[0], [[tuple(ratios(span)) for span in row] for row in heights]


class Covers(unittest.TestCase):
    def check(self, rows, first, last, count):
        """Check a cover place by place, and that its sum is the load, as no greater one could be."""
        line = Line(ratio_rows(rows))
        told = cover(line, first, last, count)
        self.assertEqual([type(told), len(told), type(told[0]), type(told[1])], [tuple, 2, Ratio, list])
        for row in told[1]:
            self.assertIs(type(row), list)
            for span in row:
                self.assertEqual([type(span)] + [type(number) for number in span], [tuple, Ratio, Ratio])
        expected = fraction(load(line, first, last, count))
        self.assertEqual(cover_sum(rows, first, last, count, in_fractions(told)), expected)
        self.assertIs(is_cover(line, first, last, count, told), True)
        self.assertIs(is_cover(line=line, first=first, last=last, count=count, value=told), True)
        self.assertEqual(cover(line=line, first=first, last=last, count=count), told)
        self.assertEqual(fractions(line.rows()), rows)

    def test_small_lines(self):
        for rows in SMALL[::7]:
            for first, last in stretches(3):
                for count in (1, 2, 3):
                    self.check(rows, first, last, count)

    def test_drawn_lines(self):
        source = drawn(61)
        for servers, jobs in itertools.product(range(1, 5), range(1, 7)):
            rows = drawn_rows(source, servers, jobs)
            for first, last in stretches(jobs):
                for count in range(1, 7):
                    self.check(rows, first, last, count)

    def test_all_times_nought(self):
        for servers, jobs in ((1, 1), (4, 1), (1, 6), (4, 6)):
            for count in (1, 4, 6):
                self.check(fractions([[0] * jobs] * servers), 0, jobs - 1, count)

    def test_a_server_of_noughts(self):
        source = drawn(62)
        for empty in range(3):
            rows = drawn_rows(source, 3, 4)
            rows[empty] = fractions([[0] * 4])[0]
            for count in (1, 2, 3):
                self.check(rows, 0, 3, count)

    def test_long_numbers(self):
        rows = [[Fraction(LONG - 7 * job, LONG - 3 * server) for job in range(6)] for server in range(4)]
        for count in range(1, 7):
            self.check(rows, 0, 5, count)

    def test_no_ways_have_more_than_any_cover(self):
        source = drawn(63)
        for servers, jobs in ((1, 3), (2, 3), (3, 3)):
            rows = drawn_rows(source, servers, jobs)
            for _ in range(30):
                told = drawn_cover(source, servers, jobs)
                for count in (1, 2, 3):
                    most = load_by_ways(rows, 0, jobs - 1, count)
                    self.assertGreaterEqual(cover_sum(rows, 0, jobs - 1, count, told), most)

    def test_equal_answers(self):
        one, same = Line([[1, 2], [2, 1]]), Line(((Ratio(1), Ratio(4, 2)), (2, Ratio(3, 3))))
        for count in range(1, 7):
            self.assertEqual(cover(one, 0, 1, count), cover(same, 0, 1, count))

    def test_lists_are_new(self):
        line = Line([[1, 1], [1, 0]])
        expected = cover(line, 0, 1, 1)
        told = cover(line, 0, 1, 1)
        told[1][0].clear()
        self.assertEqual(told[1][1], expected[1][1])
        told[1].clear()
        self.assertEqual(cover(line, 0, 1, 1), expected)
        self.assertEqual(line.text(), "1 1\n1 0")


def drawn_cover(source, servers, jobs):
    """Any cover: numbers from 0 to its height that rise from place to place."""
    height = Fraction(source.randint(0, 12), source.randint(1, 2))
    heights = []
    for server in range(servers):
        row = []
        for job in range(jobs):
            least = max(row[-1][1] if job else 0, heights[-1][job][1] if server else 0)
            before = least + (height - least) * Fraction(source.randint(0, 3), 6)
            row.append((before, before + (height - before) * Fraction(source.randint(0, 4), 4)))
        heights.append(row)
    return height, heights


class IsCover(unittest.TestCase):
    def check(self, rows, first, last, count, told):
        line = Line(ratio_rows(rows))
        expected = cover_sum(rows, first, last, count, told) == fraction(load(line, first, last, count))
        self.assertIs(is_cover(line, first, last, count, in_ratios(told)), expected, told)
        return expected

    def test_all_covers_of_small_lines(self):
        # All covers with whole numbers up to 2 of two jobs at one server, and of one at two.
        spans = [(before, behind) for before in range(-1, 4) for behind in range(-1, 4)]
        found = 0
        for rows in fractions([[1, 1]]), fractions([[2, 0]]), fractions([[0, 1]]):
            for height, one, other in itertools.product(range(-1, 3), spans, spans):
                found += self.check([rows[0]], 0, 1, 1, (height, [[one, other]]))
                found += self.check([[rows[0][0]], [rows[0][1]]], 0, 0, 1, (height, [[one], [other]]))
                found += self.check([rows[0]], 0, 1, 2, (height, [[one, other]]))
        self.assertGreater(found, 10)

    def test_drawn_covers(self):
        source = drawn(64)
        for servers, jobs in ((1, 1), (1, 2), (2, 1), (2, 2), (3, 2)):
            for _ in range(40):
                rows = [[Fraction(source.randint(0, 1)) for _ in range(jobs)] for _ in range(servers)]
                for count in (1, 2, 3):
                    self.check(rows, 0, jobs - 1, count, drawn_cover(source, servers, jobs))

    def test_near_ones(self):
        source = drawn(65)
        kept = lost = 0
        for servers, jobs in ((1, 3), (2, 2), (3, 3), (4, 6)):
            rows = drawn_rows(source, servers, jobs)
            for count in (1, 2):
                height, heights = in_fractions(cover(Line(ratio_rows(rows)), 0, jobs - 1, count))
                for server, job in itertools.product(range(servers), range(jobs)):
                    for more, side in itertools.product((Fraction(1, 7), Fraction(-1, 7), 1, -1), (0, 1)):
                        near = [list(row) for row in heights]
                        span = list(near[server][job])
                        span[side] += more
                        near[server][job] = tuple(span)
                        told = self.check(rows, 0, jobs - 1, count, (height, near))
                        kept, lost = kept + told, lost + 1 - told
                    near = [list(row) for row in heights]
                    near[server][job] = near[server][job][::-1]
                    self.check(rows, 0, jobs - 1, count, (height, near))
                for more in (Fraction(1, 9), -Fraction(1, 9), -height, -height - 1):
                    self.check(rows, 0, jobs - 1, count, (height + more, heights))
        self.assertGreater(kept, 0)
        self.assertGreater(lost, kept)

    def test_exchanged_numbers(self):
        line = Line([[1, 1], [1, 0]])
        for value, expected in (
            (TELLING, True),
            ((2, [[(0, 1), (2, 1)], [(1, 2), (2, 2)]]), False),
            ((2, [[(1, 0), (1, 2)], [(1, 2), (2, 2)]]), False),
            ((2, [[(1, 2), (0, 1)], [(1, 2), (2, 2)]]), False),
            ((2, [[(1, 2), (2, 2)], [(0, 1), (1, 2)]]), False),
            ((2, [[(0, 1), (1, 2)], [(2, 2), (2, 2)]]), False),
            ((2, [[(0, 1), (1, 2)], [(1, 2), (2, 3)]]), False),
            ((3, [[(0, 1), (1, 2)], [(1, 2), (2, 2)]]), False),
            ((1, [[(0, 1), (1, 2)], [(1, 2), (2, 2)]]), False),
            ((2, [[(0, 1), (1, 2)], [(1, 2), (1, 2)]]), False),
            ((2, [[(0, 1), (0, 2)], [(1, 2), (2, 2)]]), False),
            ((2, [[(0, 1), (1, 2)], [(0, 2), (2, 2)]]), False),
            ((2, [[(-1, 1), (1, 2)], [(1, 2), (2, 2)]]), False),
        ):
            self.assertIs(is_cover(line, 0, 1, 1, value), expected, value)

    def test_heights_below_nought(self):
        line = Line([[0]])
        for height, span, expected in (
            (0, (0, 0), True), (Ratio(0), (Ratio(0), 0), True), (-1, (-1, -1), False), (-1, (0, 0), False),
            (-1, (0, -1), False), (-1, (-1, 0), False), (0, (-1, 0), False), (0, (0, 1), False), (1, (0, 1), False),
        ):
            self.assertIs(is_cover(line, 0, 0, 1, (height, [[span]])), expected)
        # For no more than its time a height makes the sum of one way no greater.
        told = [[is_cover(Line([[2]]), 0, 0, count, (top, [[(0, top)]])) for top in range(4)] for count in (1, 2)]
        self.assertEqual(told, [[True, True, True, False], [True, False, False, False]])
        self.assertIs(is_cover(Line([[2]]), 0, 0, 1, (Ratio(1, 2), [[(0, Ratio(1, 2))]])), True)

    def test_numbers_that_fall_at_a_place(self):
        # The sum is the load, but nothing may fall from before a place to behind it.
        line = Line([[2, 2, 2]])
        self.assertIs(is_cover(line, 0, 2, 1, (2, [[(0, 2), (2, 2), (2, 2)]])), True)
        self.assertIs(is_cover(line, 0, 2, 1, (2, [[(0, 2), (2, 0), (0, 2)]])), False)

    def test_these_jobs_alone(self):
        line = Line([[9, 1, 1, 9], [9, 1, 0, 9]])
        self.assertIs(is_cover(line, 1, 2, 1, TELLING), True)
        self.assertIs(is_cover(line, 0, 2, 1, TELLING), False)
        self.assertIs(is_cover(line, 1, 3, 1, TELLING), False)
        height, heights = TELLING
        self.assertIs(is_cover(line, 1, 2, 1, (height, [[(0, 0)] + row + [(2, 2)] for row in heights])), False)

    def test_tuples_and_lists(self):
        line = Line([[1, 1], [1, 0]])
        height, heights = TELLING
        self.assertIs(is_cover(line, 0, 1, 1, (height, tuple([tuple(row) for row in heights]))), True)
        self.assertIs(is_cover(line, 0, 1, 1, (height, [tuple(heights[0]), heights[1]])), True)
        self.assertIs(is_cover(line, 0, 1, 1, [height, heights]), False)
        self.assertIs(is_cover(line, 0, 1, 1, (height, [[[0, 1], (1, 2)], heights[1]])), False)
        self.assertIs(is_cover(line, 0, 1, 1, (height, [[(0, 1), (1, 2)], [(1, 2), [2, 2]]])), False)

    def test_sizes(self):
        line = Line([[1, 1], [1, 0]])
        height, heights = TELLING
        for value in (
            (height, heights, 0), (height,), (heights, height), (height, heights[:1]), (height, heights + heights[1:]),
            (height, [heights[0][:1], heights[1]]), (height, [heights[0], heights[1] + [(2, 2)]]), (height, []),
            (height, [[], []]), (height, [heights[0], []]), (height, [heights[0], [(1, 2), (2,)]]),
            (height, [heights[0], [(1, 2), (2, 2, 2)]]), (height, [heights[0], [(1, 2), ()]]), (), height, heights,
        ):
            self.assertIs(is_cover(line, 0, 1, 1, value), False)

    def test_numbers(self):
        line = Line([[1, 1], [1, 0]])
        height, heights = TELLING
        value = (Ratio(2), [[(Ratio(0), 1), (Ratio(1), 2)], [(1, Ratio(2)), (2, 2)]])
        self.assertIs(is_cover(line, 0, 1, 1, value), True)
        for value in odd_values() + strange_values():
            if not (isinstance(value, (int, Ratio)) and not isinstance(value, bool)):
                self.assertIs(is_cover(line, 0, 1, 1, (value, heights)), False)
                self.assertIs(is_cover(line, 0, 1, 1, (height, [[(value, 1), (1, 2)], heights[1]])), False)
                self.assertIs(is_cover(line, 0, 1, 1, (height, [[(0, value), (1, 2)], heights[1]])), False)
                self.assertIs(is_cover(line, 0, 1, 1, (height, [heights[0], [(1, 2), (2, value)]])), False)
        self.assertIs(is_cover(line, 0, 1, 1, (2, [[(0, True), (1, 2)], [(1, 2), (2, 2)]])), False)
        self.assertIs(is_cover(line, 0, 1, 1, (2, [[(False, 1), (1, 2)], [(1, 2), (2, 2)]])), False)
        self.assertIs(is_cover(Line([[1]]), 0, 0, 1, (True, [[(0, 1)]])), False)

    def test_any_values(self):
        for line in (Line([[0, 0], [0, 0]]), Line([[0]])):
            for value in odd_values() + strange_values():
                self.assertIs(is_cover(line, 0, 0, 1, value), False)
                self.assertIs(is_cover(line, 0, 0, 1, (0, value)), False)
                self.assertIs(is_cover(line, 0, 0, 1, (0, [value] * line.servers())), False)
                self.assertIs(is_cover(line, 0, 0, 1, (0, [[value]] * line.servers())), False)

    def test_values_stay(self):
        value = (2, [[(0, 1), (1, 2)], [(1, 2), (2, 2)]])
        is_cover(Line([[1, 1], [1, 0]]), 0, 1, 1, value)
        self.assertEqual(value, TELLING)


class WrongArguments(unittest.TestCase):
    def check(self, kind, value, line, first, last, count):
        for act in (
            lambda: cover(line, first, last, count), lambda: cover(line=line, first=first, last=last, count=count),
            lambda: is_cover(line, first, last, count, TELLING), lambda: is_cover(line, first, last, count, None),
            lambda: is_cover(line=line, first=first, last=last, count=count, value=7),
        ):
            check_raises(self, kind, value, act)

    def test_first(self):
        line = Line([[1] * 3] * 2)
        for value in values_but(int) + [-1, 3, 4, 10 ** 45]:
            for last, count in ((0, 1), (None, 0), ("1", 99), (3, True)):
                self.check(BadJob, value, line, value, last, count)

    def test_last(self):
        line = Line([[1] * 3] * 2)
        for value in values_but(int) + [-1, 3, 4, 10 ** 45]:
            for count in (1, 0, None):
                self.check(BadJob, value, line, 0, value, count)
        self.check(BadJob, 0, line, 1, 0, 0)
        self.check(BadJob, 1, line, 2, 1, 7)

    def test_count(self):
        for line in (Line([[1] * 3] * 2), Line([[1] * 3])):
            for value in values_but(int) + [0, -1, 7, 99, 10 ** 45, Ratio(1), Ratio(6), Ratio(3, 2)]:
                self.check(BadCount, value, line, 0, 2, value)
