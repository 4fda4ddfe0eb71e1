"""Points [6], [50], and [9], [10] for them: loads and bundles."""

import itertools
import unittest
from fractions import Fraction

from tandems.errors import BadCount, BadJob
from tandems.lines import Line
from tandems.ratios import Ratio
from tandems.shapes import bundle, is_bundle, load
from tests.draws import stretches
from tests.oracles import (
    drawn, drawn_rows, load_by_ways, longest_ways, ratio_rows, shape_by_push, way_sum, ways_of_jobs,
)
from tests.support import check_raises, fraction, fractions, odd_values, strange_values, values_but

LONG = 10 ** 40 - 1
SMALL = [fractions([times[:3], times[3:]]) for times in itertools.product((0, 1, 2), repeat=6)]
# The sizes of stretches with so few ways that all choices of them can be tried.
FEW = [(1, 1), (1, 6), (2, 1), (2, 2), (2, 3), (2, 4), (2, 6), (3, 1), (3, 2), (3, 3), (4, 1), (4, 2), (4, 3)]


def union_sum(rows, ways):
    return sum([rows[server][job] for server, job in {place for way in ways for place in way}])


class Loads(unittest.TestCase):
    def check(self, rows, first, last, count):
        line = Line(ratio_rows(rows))
        answer = load(line, first, last, count)
        self.assertIs(type(answer), Ratio)
        self.assertEqual(fraction(answer), load_by_ways(rows, first, last, count))
        self.assertEqual(load(line=line, first=first, last=last, count=count), answer)
        found = bundle(line, first, last, count)
        self.assertEqual([type(found)] + [type(way) for way in found], [list] * (count + 1))
        for way in found:
            self.assertIn(way, ways_of_jobs(len(rows), first, last))
            self.assertEqual({type(item) for place in way for item in place}, {int})
        self.assertEqual(union_sum(rows, found), fraction(answer))
        self.assertEqual(bundle(line=line, first=first, last=last, count=count), found)
        self.assertIs(is_bundle(line, first, last, count, found), True)
        self.assertIs(is_bundle(line=line, first=first, last=last, count=count, value=found), True)
        self.assertEqual(fractions(line.rows()), rows)

    def test_small_lines(self):
        for rows in SMALL[::5]:
            for first, last in stretches(3):
                for count in (1, 2, 3):
                    self.check(rows, first, last, count)

    def test_drawn_lines_by_all_choices(self):
        source = drawn(51)
        for servers, jobs in FEW:
            for _ in range(3):
                rows = drawn_rows(source, servers, jobs)
                for count in range(1, 7):
                    self.check(rows, 0, jobs - 1, count)

    def test_stretches_by_all_choices(self):
        source = drawn(52)
        for servers, jobs in ((2, 6), (3, 5), (4, 4)):
            rows = drawn_rows(source, servers, jobs)
            for first, last in stretches(jobs):
                if last - first < 3:
                    for count in range(1, servers + 1):
                        self.check(rows, first, last, count)

    def test_full_lines(self):
        # Two ways of 4 servers and 6 jobs can still be tried out, more only be pushed together.
        source = drawn(53)
        for _ in range(2):
            rows = drawn_rows(source, 4, 6)
            self.check(rows, 0, 5, 1)
            self.check(rows, 0, 5, 2)

    def test_full_lines_by_pushing(self):
        source = drawn(54)
        for servers, jobs in itertools.product(range(1, 5), (4, 5, 6)):
            rows = drawn_rows(source, servers, jobs)
            line = Line(ratio_rows(rows))
            for first, last in stretches(jobs):
                shape = shape_by_push(rows, first, last)
                for count in range(1, 7):
                    most = load(line, first, last, count)
                    self.assertEqual(fraction(most), sum(shape[:count]))
                    found = bundle(line, first, last, count)
                    self.assertEqual(len(found), count)
                    self.assertTrue(all([way in ways_of_jobs(servers, first, last) for way in found]))
                    self.assertEqual(union_sum(rows, found), sum(shape[:count]))
                    self.assertIs(is_bundle(line, first, last, count, found), True)

    def test_one_way(self):
        source = drawn(55)
        for servers, jobs in ((1, 6), (3, 4), (4, 6)):
            rows = drawn_rows(source, servers, jobs)
            line = Line(ratio_rows(rows))
            for first, last in stretches(jobs):
                most, ways = longest_ways(rows, first, last)
                self.assertEqual(fraction(load(line, first, last, 1)), most)
                self.assertIn(bundle(line, first, last, 1)[0], ways)

    def test_all_places(self):
        line = Line([[1, 2, 4], [8, 16, 32]])
        self.assertEqual([load(line, 0, 2, count).text() for count in (1, 2, 3, 6)], ["57", "63", "63", "63"])
        self.assertEqual([load(line, 1, 1, count).text() for count in (1, 2, 6)], ["18", "18", "18"])
        self.assertEqual([load(line, 1, 2, count).text() for count in (1, 2)], ["50", "54"])
        self.assertEqual(bundle(line, 1, 1, 3), [[(0, 1), (1, 1)]] * 3)
        self.assertEqual(bundle(Line([[5]]), 0, 0, 6), [[(0, 0)]] * 6)

    def test_places_count_once(self):
        # The longest way alone, and with it one more, has less than two others together.
        line = Line([[0, 3, 2], [2, 3, 0], [0, 2, 2]])
        rows = fractions(line.rows())
        self.assertEqual(fraction(load(line, 0, 2, 2)), load_by_ways(rows, 0, 2, 2))
        self.assertEqual(load(Line([[7, 0], [0, 0]]), 0, 1, 2).text(), "7")

    def test_all_times_nought(self):
        for servers, jobs in ((1, 1), (4, 1), (1, 6), (4, 6)):
            self.check(fractions([[0] * jobs] * servers), 0, jobs - 1, 1)
            line = Line([[0] * jobs] * servers)
            self.assertEqual(load(line, 0, jobs - 1, 6).text(), "0")
            self.assertIs(is_bundle(line, 0, jobs - 1, 6, bundle(line, 0, jobs - 1, 6)), True)

    def test_long_numbers(self):
        line = Line([[LONG, Ratio(1, LONG)], [Ratio(1, LONG - 1), LONG - 1]])
        self.assertEqual(load(line, 0, 1, 1), Ratio(1, LONG - 1) + LONG + LONG - 1)
        self.assertEqual(load(line, 0, 1, 2), Ratio(1, LONG) + Ratio(1, LONG - 1) + LONG + LONG - 1)
        full = Line([[Ratio(LONG - 7 * job, LONG - server) for job in range(6)] for server in range(4)])
        for count in range(1, 7):
            self.assertIs(is_bundle(full, 0, 5, count, bundle(full, 0, 5, count)), True)

    def test_equal_answers(self):
        one, same = Line([[1, 2], [2, 1]]), Line(((Ratio(1), Ratio(4, 2)), (2, Ratio(3, 3))))
        for count in range(1, 7):
            self.assertEqual(load(one, 0, 1, count), load(same, 0, 1, count))
            self.assertEqual(bundle(one, 0, 1, count), bundle(same, 0, 1, count))

    def test_lists_are_new(self):
        line = Line([[1, 1], [1, 0]])
        expected = bundle(line, 0, 1, 6)
        for position in range(6):
            found = bundle(line, 0, 1, 6)
            found[position].clear()
            self.assertEqual([way for way in found if way], expected[:position] + expected[position + 1:])
        bundle(line, 0, 1, 6).clear()
        self.assertEqual(bundle(line, 0, 1, 6), expected)


class IsBundle(unittest.TestCase):
    def test_all_choices_of_ways(self):
        source = drawn(56)
        for servers, jobs in ((1, 3), (2, 3), (3, 2), (3, 3)):
            rows = drawn_rows(source, servers, jobs)
            line = Line(ratio_rows(rows))
            ways = ways_of_jobs(servers, 0, jobs - 1)
            for count in (1, 2, 3):
                most = load_by_ways(rows, 0, jobs - 1, count)
                for value in itertools.product(ways, repeat=count):
                    expected = union_sum(rows, value) == most
                    self.assertIs(is_bundle(line, 0, jobs - 1, count, list(value)), expected)

    def test_tuples_for_lists(self):
        line = Line([[1, 1], [1, 0]])
        down, across = [(0, 0), (1, 0), (1, 1)], [(0, 0), (0, 1), (1, 1)]
        for value in ([down, across], (down, across), [tuple(down), across], (tuple(across), tuple(down))):
            self.assertIs(is_bundle(line, 0, 1, 2, value), True)
        for value in ([[list(place) for place in down], across], [[[0, 0], (1, 0), (1, 1)], across]):
            self.assertIs(is_bundle(line, 0, 1, 2, value), False)

    def test_numbers_of_ways(self):
        line = Line([[1, 1], [1, 0]])
        down, across = [(0, 0), (1, 0), (1, 1)], [(0, 0), (0, 1), (1, 1)]
        self.assertIs(is_bundle(line, 0, 1, 3, [down, across]), False)
        self.assertIs(is_bundle(line, 0, 1, 1, [down, across]), False)
        self.assertIs(is_bundle(line, 0, 1, 3, [down, across, down]), True)
        self.assertIs(is_bundle(line, 0, 1, 2, [down, down]), False)
        self.assertIs(is_bundle(line, 0, 1, 6, [down] * 5 + [across]), True)
        self.assertIs(is_bundle(line, 0, 1, 6, [down] * 6), False)
        self.assertIs(is_bundle(line, 0, 1, 1, down), False)
        self.assertIs(is_bundle(line, 0, 1, 1, [[down]]), False)
        # With nothing to gain any ways will do, but just so many.
        still = Line([[0, 0], [0, 0]])
        told = [is_bundle(still, 0, 1, 2, [down] * many) for many in range(5)]
        self.assertEqual(told, [False, False, True, False, False])

    def test_near_ones(self):
        source = drawn(57)
        for servers, jobs in ((2, 2), (3, 4), (4, 6)):
            rows = drawn_rows(source, servers, jobs)
            line = Line(ratio_rows(rows))
            for first, last in ((0, jobs - 1), (1, jobs - 1), (0, 0)):
                found = bundle(line, first, last, 2)
                for way, index in itertools.product(range(2), range(len(found[0]))):
                    server, job = found[way][index]
                    for place in (
                        (server + 1, job), (server, job + 1), (server - 1, job), (server, job - 1), (job, server, 0),
                        [server, job], (Ratio(server), job), (server, Ratio(job)), (bool(server), job),
                        (server, bool(job)),
                        (str(server), job), (server,), None, server,
                    ):
                        value = [list(other) for other in found]
                        value[way][index] = place
                        expected = value[way] in ways_of_jobs(servers, first, last)
                        if expected and type(place[0]) is int and type(place[1]) is int:
                            expected = union_sum(rows, value) == fraction(load(line, first, last, 2))
                        else:
                            expected = False
                        self.assertIs(is_bundle(line, first, last, 2, value), expected, place)
                    value = [list(other) for other in found]
                    del value[way][index]
                    self.assertIs(is_bundle(line, first, last, 2, value), False)

    def test_ways_of_other_jobs(self):
        line = Line([[0, 0, 0], [0, 0, 0]])
        way = [(0, 0), (1, 0), (1, 1)]
        self.assertIs(is_bundle(line, 0, 1, 1, [way]), True)
        self.assertIs(is_bundle(line, 0, 2, 1, [way]), False)
        self.assertIs(is_bundle(line, 0, 1, 1, [way + [(1, 2)]]), False)
        self.assertIs(is_bundle(line, 0, 1, 1, [way[:2]]), False)
        self.assertIs(is_bundle(line, 0, 1, 1, [way[1:]]), False)
        self.assertIs(is_bundle(line, 0, 1, 2, [way, [(0, 1), (1, 1)]]), False)
        self.assertIs(is_bundle(line, 0, 1, 2, [way, []]), False)

    def test_any_values(self):
        for line in (Line([[0, 0], [0, 0]]), Line([[1]])):
            for value in odd_values() + strange_values():
                for count in (1, 2):
                    self.assertIs(is_bundle(line, 0, 0, count, value), False)
                    self.assertIs(is_bundle(line, 0, 0, count, [value] * count), False)
                    self.assertIs(is_bundle(line, 0, 0, count, [[value]] * count), False)
                    self.assertIs(is_bundle(line, 0, 0, count, [[(value, 0)]] * count), False)

    def test_values_stay(self):
        line = Line([[1, 1], [1, 0]])
        value = [[(0, 0), (1, 0), (1, 1)], [(0, 0), (0, 1), (1, 1)]]
        is_bundle(line, 0, 1, 2, value)
        self.assertEqual(value, [[(0, 0), (1, 0), (1, 1)], [(0, 0), (0, 1), (1, 1)]])
        self.assertEqual(way_sum(fractions(line.rows()), value[0]), Fraction(2))


def asked(line, first, last, count):
    """What may be asked with these arguments, with and without a value to judge."""
    return [
        lambda: load(line, first, last, count), lambda: bundle(line, first, last, count),
        lambda: load(line=line, first=first, last=last, count=count),
        lambda: bundle(line=line, first=first, last=last, count=count),
        lambda: is_bundle(line, first, last, count, [[(0, 0)]]), lambda: is_bundle(line, first, last, count, None),
        lambda: is_bundle(line=line, first=first, last=last, count=count, value=7),
    ]


class WrongArguments(unittest.TestCase):
    def check(self, kind, value, line, first, last, count):
        for act in asked(line, first, last, count):
            check_raises(self, kind, value, act)

    def test_first(self):
        for servers, jobs in ((1, 1), (4, 6), (2, 3)):
            line = Line([[1] * jobs] * servers)
            for value in values_but(int) + [-1, jobs, jobs + 1, 10 ** 45, Ratio(0), Ratio(jobs - 1)]:
                for last, count in ((0, 1), (None, 0), ("1", 99), (jobs, True)):
                    self.check(BadJob, value, line, value, last, count)

    def test_last(self):
        for servers, jobs in ((1, 1), (4, 6), (2, 3)):
            line = Line([[1] * jobs] * servers)
            for value in values_but(int) + [-1, jobs, jobs + 1, 10 ** 45, Ratio(0), Ratio(jobs - 1)]:
                for count in (1, 0, None, 7, Ratio(1)):
                    self.check(BadJob, value, line, 0, value, count)
        line = Line([[1] * 6] * 4)
        for first, last in itertools.product(range(6), range(6)):
            if last < first:
                self.check(BadJob, last, line, first, last, 0)

    def test_count(self):
        for servers, jobs in ((1, 1), (4, 6), (2, 3)):
            line = Line([[1] * jobs] * servers)
            for value in values_but(int) + [0, -1, 7, 99, 10 ** 45, Ratio(1), Ratio(6), Ratio(3, 2)]:
                self.check(BadCount, value, line, 0, jobs - 1, value)

    def test_both_jobs(self):
        self.check(BadJob, 1, Line([[1, 1, 1]]), 2, 1, 1)
        self.check(BadJob, True, Line([[1, 1, 1]]), True, True, 1)
        self.check(BadJob, 3, Line([[1, 1, 1]]), 3, 1, 1)
