"""Points [7], [8], [60], and [9], [10] for them: kin lines."""

import itertools
import unittest
from fractions import Fraction

from tandems.errors import Unlike
from tandems.kin import are_kin, is_unlike_load, leading, unlike_load
from tandems.lines import Line
from tandems.moves import moved_down, moved_up
from tandems.ratios import Ratio
from tandems.shapes import pushed, pushing
from tandems.turns import risen, turned
from tandems.ways import alike
from tests.draws import walked
from tests.oracles import bracket, drawn, drawn_rows, load_by_ways, move, ratio_rows, triangle_by_push
from tests.support import check_raises_plain, fractions, odd_values, strange_values

LONG = 10 ** 40 - 1
# All lines of two servers and two jobs, and some of three servers, with small whole times.
SMALL = [fractions([times[:2], times[2:]]) for times in itertools.product((0, 1, 2), repeat=4)]
HIGH = [fractions([times[:2], times[2:4], times[4:]]) for times in itertools.product((0, 1), repeat=6)]


def kin_by_moves(rows):
    """All rows of whole times that moves by whole amounts lead to."""
    found = [rows]
    for ahead in found:
        for server in range(len(rows) - 1):
            above, below, _ = bracket(ahead[server], ahead[server + 1])
            for amount in range(-int(sum(below)), int(sum(above)) + 1):
                behind = move(ahead, server, Fraction(amount))
                if behind not in found:
                    found.append(behind)
    return found


def many_lines(seed, draws):
    """Drawn lines of 1 to 4 servers and 1 to 6 jobs."""
    source = drawn(seed)
    for servers, jobs in itertools.product(range(1, 5), range(1, 7)):
        for _ in range(draws):
            yield Line(ratio_rows(drawn_rows(source, servers, jobs)))


class Kin(unittest.TestCase):
    def check(self, one, other, expected):
        self.assertIs(are_kin(one, other), expected)
        self.assertIs(are_kin(one=other, other=one), expected)
        told = leading(one, other)
        self.assertEqual(leading(one=one, other=other), told)
        if expected:
            self.check_leading(one, other, told)
            self.assertIsNone(unlike_load(one, other))
        else:
            self.assertIsNone(told)
            self.check_unlike(one, other, unlike_load(one, other))
        self.assertEqual(unlike_load(one=one, other=other), unlike_load(one, other))

    def check_leading(self, one, other, told):
        """Make the moves one after the other, each within the room, as they raise an error else."""
        self.assertIs(type(told), list)
        found = one
        for step in told:
            self.assertEqual([type(step)] + [type(item) for item in step], [tuple, int, Ratio])
            server, amount = step
            self.assertNotEqual(amount, 0)
            if Ratio(0) < amount:
                found = moved_down(found, server, amount)
            else:
                found = moved_up(found, server, -amount)
        self.assertEqual(found, other)

    def check_unlike(self, one, other, told):
        self.assertEqual([type(told)] + [type(item) for item in told], [tuple, int, int])
        last, count = told
        self.assertTrue(0 <= last < one.jobs() and 1 <= count <= 6)
        loads = [sum(triangle_by_push(fractions(line.rows()))[last][:count]) for line in (one, other)]
        self.assertNotEqual(loads[0], loads[1])
        self.assertIs(is_unlike_load(one, other, told), True)

    def test_all_small_lines_by_moves(self):
        for lines in (SMALL, HIGH[::3]):
            for rows in lines[::4]:
                others = kin_by_moves(rows)
                for other in lines + others[:20]:
                    self.check(Line(ratio_rows(rows)), Line(ratio_rows(other)), other in others)

    def test_drawn_lines(self):
        source = drawn(91)
        for line in many_lines(92, 3):
            self.check(line, walked(source, line, 3), True)
            self.check(line, risen(line), True)
            for server in range(line.servers() - 1):
                self.check(line, turned(line, server), True)

    def test_by_triangles(self):
        source = drawn(93)
        for servers, jobs in itertools.product(range(1, 5), range(1, 7)):
            for _ in range(4):
                rows = [[Fraction(source.randint(0, 1)) for _ in range(jobs)] for _ in range(servers)]
                others = [list(row) for row in rows]
                job = source.randrange(jobs)
                one, other = source.randrange(servers), source.randrange(servers)
                others[one][job], others[other][job] = others[other][job], others[one][job]
                expected = triangle_by_push(rows) == triangle_by_push(others)
                self.check(Line(ratio_rows(rows)), Line(ratio_rows(others)), expected)

    def test_kin_to_itself(self):
        for line in many_lines(94, 1):
            self.check(line, line, True)
            self.check(line, Line(line.rows()), True)
            self.assertEqual(leading(line, line), [])

    def test_no_moves_in_vain(self):
        for line in many_lines(98, 1):
            self.assertEqual(leading(line, pushed(line)), pushing(line))
            self.assertEqual(len(leading(pushed(line), line)), len(pushing(line)))

    def test_a_little_unlike(self):
        for line in many_lines(95, 1):
            for server, job in itertools.product(range(line.servers()), range(line.jobs())):
                rows = line.rows()
                rows[server][job] = rows[server][job] + Ratio(1, 7)
                self.check(line, Line(rows), False)

    def test_equal_reaches_alone(self):
        # All ends are the same here, but the loads of two ways are not.
        one, other = Line([[0, 0, 0], [0, 1, 1], [1, 1, 0]]), Line([[0, 0, 1], [0, 1, 0], [1, 1, 0]])
        self.assertIs(alike(one, other), True)
        self.check(one, other, False)
        self.check(other, one, False)
        self.assertEqual(unlike_load(one, other), (2, 2))
        one, other = Line([[0, 0, 0], [1, 1, 1], [1, 1, 0]]), Line([[0, 0, 1], [1, 1, 0], [1, 1, 0]])
        self.assertIs(alike(one, other), True)
        self.check(one, other, False)

    def test_other_sums(self):
        self.check(Line([[1, 2]]), Line([[2, 1]]), False)
        self.check(Line([[1, 2]]), Line([[1, 2]]), True)
        self.check(Line([[5], [0], [1]]), Line([[0], [6], [0]]), True)
        self.check(Line([[5], [0], [1]]), Line([[0], [6], [1]]), False)
        self.check(Line([[0] * 6] * 4), Line([[0] * 6] * 4), True)

    def test_long_numbers(self):
        line = Line([[Ratio(LONG - 7 * job, LONG - 3 * server) for job in range(6)] for server in range(4)])
        self.check(line, risen(line), True)
        rows = line.rows()
        rows[0][5], rows[1][5] = rows[0][5] + Ratio(1, LONG), rows[1][5] - Ratio(1, LONG)
        other = Line(rows)
        self.assertEqual(leading(line, other) is None, unlike_load(line, other) is not None)

    def test_equal_answers(self):
        one, same = Line([[1, 2], [2, 1]]), Line(((Ratio(1), Ratio(4, 2)), (2, Ratio(3, 3))))
        other = turned(one, 0)
        self.assertEqual(leading(one, other), leading(same, other))
        self.assertEqual(leading(other, one), leading(other, same))
        unlike = Line([[1, 1], [2, 1]])
        self.assertEqual(unlike_load(one, unlike), unlike_load(same, unlike))

    def test_lists_are_new(self):
        one, other = Line([[1, 1], [1, 0]]), Line([[0, 1], [2, 0]])
        expected = leading(one, other)
        leading(one, other).clear()
        self.assertEqual(leading(one, other), expected)
        self.assertEqual((one.text(), other.text()), ("1 1\n1 0", "0 1\n2 0"))


class IsUnlikeLoad(unittest.TestCase):
    def test_all_tuples(self):
        source = drawn(96)
        for servers, jobs in ((1, 1), (1, 3), (2, 2), (3, 2), (2, 3)):
            for _ in range(5):
                drawn_pair = [[[source.randint(0, 1) for _ in range(jobs)] for _ in range(servers)] for _ in range(2)]
                pair = [fractions(rows) for rows in drawn_pair]
                one, other = [Line(ratio_rows(rows)) for rows in pair]
                for last, count in itertools.product(range(-1, jobs + 1), range(-1, 9)):
                    expected = False
                    if 0 <= last < jobs and 1 <= count <= 6:
                        expected = load_by_ways(pair[0], 0, last, count) != load_by_ways(pair[1], 0, last, count)
                    self.assertIs(is_unlike_load(one, other, (last, count)), expected)
                    self.assertIs(is_unlike_load(one=one, other=other, value=(last, count)), expected)

    def test_full_lines(self):
        source = drawn(97)
        for _ in range(6):
            pair = [[[Fraction(source.randint(0, 1)) for _ in range(6)] for _ in range(4)] for _ in range(2)]
            tables = [triangle_by_push(rows) for rows in pair]
            one, other = [Line(ratio_rows(rows)) for rows in pair]
            for last, count in itertools.product(range(6), range(1, 7)):
                expected = sum(tables[0][last][:count]) != sum(tables[1][last][:count])
                self.assertIs(is_unlike_load(one, other, (last, count)), expected)

    def test_counts_above_the_servers(self):
        one, other = Line([[1, 1], [1, 0]]), Line([[1, 1], [1, 1]])
        told = [[is_unlike_load(one, other, (last, count)) for count in range(9)] for last in range(3)]
        self.assertEqual(told, [[False] * 9, [False] + [True] * 6 + [False] * 2, [False] * 9])
        one, other = Line([[1, 0], [0, 0]]), Line([[0, 1], [0, 0]])
        told = [[is_unlike_load(one, other, (last, count)) for count in range(8)] for last in range(2)]
        self.assertEqual(told, [[False] + [True] * 6 + [False], [False] * 8])

    def test_near_ones(self):
        one, other = Line([[1, 1], [1, 0]]), Line([[1, 1], [1, 1]])
        self.assertIs(is_unlike_load(one, other, (1, 2)), True)
        for value in (
            [1, 2], (1, 2, 0), (1,), (2, 1), (0, 2), (Ratio(1), 2), (1, Ratio(2)), (True, 2), (1, True),
            ("1", 2), (1, "2"),
            (1, 7), (1, 0), (1, -1), (-1, 2), (2, 2), (None, 2), (1, None), ((1, 2),), (1, (2,)), (1, 10 ** 45),
            1, 2, "12",
        ):
            self.assertIs(is_unlike_load(one, other, value), False, value)

    def test_any_values(self):
        one, other = Line([[1, 1], [1, 0]]), Line([[2, 1], [1, 1]])
        for value in odd_values() + strange_values():
            self.assertIs(is_unlike_load(one, other, value), False)
            self.assertIs(is_unlike_load(one, one, value), False)
            if not (type(value) is int):
                self.assertIs(is_unlike_load(one, other, (value, 1)), False)
                self.assertIs(is_unlike_load(one, other, (1, value)), False)

    def test_kin_lines(self):
        one, other = Line([[1, 1], [1, 0]]), Line([[0, 1], [2, 0]])
        for last, count in itertools.product(range(2), range(1, 7)):
            self.assertIs(is_unlike_load(one, other, (last, count)), False)


class UnlikeLines(unittest.TestCase):
    def test_sizes(self):
        for servers, others, jobs, more in itertools.product(range(1, 5), range(1, 5), (1, 2, 6), (1, 2, 6)):
            one, other = Line([[1] * jobs] * servers), Line([[1] * more] * others)
            if (servers, jobs) != (others, more):
                for told in (are_kin, leading, unlike_load):
                    check_raises_plain(self, Unlike, lambda: told(one, other))
                    check_raises_plain(self, Unlike, lambda: told(one=one, other=other))
                for value in [(0, 1), None, (0, 9), object()]:
                    check_raises_plain(self, Unlike, lambda: is_unlike_load(one, other, value))
                    check_raises_plain(self, Unlike, lambda: is_unlike_load(one=one, other=other, value=value))
            else:
                self.assertEqual((are_kin(one, other), unlike_load(one, other)), (True, None))

    def test_lines_of_the_same_ends(self):
        one, other = Line([[1, 1]]), Line([[1, 1], [0, 0]])
        self.assertIs(alike(one, other), True)
        check_raises_plain(self, Unlike, lambda: are_kin(one, other))
