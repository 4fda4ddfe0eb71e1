"""Points [8], [61], [62], and [9], [10] for them: triangles and sides, judged and told back."""

import itertools
import unittest
from fractions import Fraction

from tandems.errors import BadSides, BadTriangle
from tandems.kin import fault, is_triangle, line_by, line_of, sides
from tandems.lines import Line
from tandems.ratios import Ratio
from tandems.shapes import is_pushed, pushed, triangle
from tests.draws import many_rows, walked
from tests.oracles import drawn, push, ratio_rows, shape_by_push, triangle_by_push
from tests.support import check_raises, check_texts, fractions, odd_values, strange_values, values_but

LONG = 10 ** 40 - 1
HALF = Ratio(1, 2)


def light_rows(servers, jobs, most):
    """All lines of whole times whose sum is no more than this."""
    for times in itertools.product(range(most + 1), repeat=servers * jobs):
        if sum(times) <= most:
            yield fractions([times[at * jobs:at * jobs + jobs] for at in range(servers)])


def sides_by_push(rows):
    return [shape_by_push(rows[:size], 0, len(rows[0]) - 1) for size in range(1, len(rows) + 1)]


def first_fault(table):
    """The first number out of its bounds, by the words of [61]."""
    for job, row in enumerate(table):
        ahead = table[job - 1] if job else [0] * len(row)
        for index, number in enumerate(row):
            if number < ahead[index] or index > 0 and number > ahead[index - 1]:
                return job, index
    return None


def misshapen(table):
    """Values near a triangle that are no list of 1 to 6 lists of 1 to 4 numbers each."""
    yield from [[], (), [[]], [[], []], table * 7, [row * 5 for row in table], [table], {"triangle": table}]
    yield from [[row[:1] + ["0"] for row in table], [row[:-1] + [None] for row in table], [str(table)], table[0]]
    yield from [table + [[]], table + [table[0] + [0]], [table[0] + [0]] + table, table + [None], [None] + table]
    yield from [table + ["00"], [{} for _ in table], [True] * len(table), [row[:-1] + [True] for row in table]]
    yield from [[row[:-1] + [False] for row in table], [dict(enumerate(row)) for row in table], {0: table[0]}]
    if len(table) > 1:
        yield [row[:len(row) - at] for at, row in enumerate(table)]
        yield table[:-1] + [table[-1][:-1]]
        yield table[:-1] + [table[-1] + [0]]


class Judged(unittest.TestCase):
    def check(self, table, expected):
        """Check what is told of lists of numbers, with the first number out of its bounds."""
        for value in (ratio_rows(table), tuple([tuple(row) for row in ratio_rows(table)])):
            self.assertIs(is_triangle(value), expected is None, table)
            self.assertIs(is_triangle(value=value), expected is None)
            self.assertEqual(fault(value), expected, table)
            told = fault(value=value)
            if told is not None:
                self.assertEqual([type(told)] + [type(item) for item in told], [tuple, int, int])
                check_raises(self, BadTriangle, value, lambda: line_of(value))
                check_raises(self, BadTriangle, value, lambda: line_of(triangle=value))

    def test_all_small_ones(self):
        for servers, jobs, most in ((1, 2, 3), (2, 1, 3), (2, 2, 3), (2, 3, 2), (3, 2, 2), (1, 4, 2), (4, 1, 2)):
            known = [triangle_by_push(rows) for rows in light_rows(servers, jobs, most)]
            for numbers in itertools.product(range(-1, most + 1), repeat=servers * jobs):
                table = fractions([numbers[at * servers:at * servers + servers] for at in range(jobs)])
                if sum(table[-1]) <= most:
                    self.assertEqual(table in known, first_fault(table) is None)
                    self.assertIs(is_triangle(table_of(numbers, servers)), table in known)
                    self.assertEqual(fault(table_of(numbers, servers)), first_fault(table))

    def test_triangles_of_lines(self):
        for rows in many_rows(101, 3):
            self.check(triangle_by_push(rows), None)

    def test_near_ones(self):
        for rows in many_rows(102, 1):
            table = triangle_by_push(rows)
            for job, index in itertools.product(range(len(table)), range(len(rows))):
                for more in (Fraction(1, 9), -Fraction(1, 9), Fraction(LONG), -Fraction(LONG)):
                    near = [list(row) for row in table]
                    near[job][index] += more
                    self.check(near, first_fault(near))

    def test_at_the_bounds(self):
        for table, expected in (
            ([[5, 0], [9, 5]], None), ([[5, 0], [9, 6]], (1, 1)), ([[5, 0], [5, 0]], None), ([[5, 0], [4, 0]], (1, 0)),
            ([[5, 1], [9, 5]], (0, 1)), ([[-1, 0], [0, 0]], (0, 0)), ([[5, -1], [9, 6]], (0, 1)),
            ([[0, 0, 0, 0]], None),
            ([[5, 0, 0], [9, 5, 0], [9, 9, 5]], None), ([[5, 0, 0], [9, 5, 1], [9, 9, 5]], (1, 2)),
            ([[5, 0, 0], [9, 5, 0], [9, 4, 5]], (2, 1)), ([[5, 0, 0], [9, 5, 0], [8, 10, 6]], (2, 0)),
            ([[5, 0, 0], [9, 5, 0], [9, 10, 6]], (2, 1)), ([[LONG]], None), ([[-LONG]], (0, 0)), ([[3], [2]], (1, 0)),
            ([[0, 0], [1, 1]], (1, 1)), ([[2, 0], [2, 3]], (1, 1)), ([[1, 1]], (0, 1)),
            ([[1], [1], [1], [1], [1], [0]], (5, 0)),
        ):
            self.check(fractions(table), expected)

    def test_first_fault_by_jobs_then_by_indices(self):
        self.check(fractions([[3, 0, 0], [2, 5, 9], [0, 0, 0]]), (1, 0))
        self.check(fractions([[3, 0, 0], [4, 5, 9], [0, 0, 0]]), (1, 1))
        self.check(fractions([[3, 0, 0], [4, 3, 9], [0, 0, 0]]), (1, 2))
        self.check(fractions([[3, 0, 0], [4, 3, 0], [5, 5, 4]]), (2, 1))

    def test_misshapen_values(self):
        for table in ([[2, 0], [2, 1]], [[3]], [[1, 0, 0, 0]], [[0] * 4] * 6):
            self.assertIs(is_triangle(table), True)
            for value in list(misshapen(table)) + odd_values():
                if value not in ([[0]],):
                    self.assertIs(is_triangle(value), False, value)
                    check_raises(self, BadTriangle, value, lambda: fault(value))
                    check_raises(self, BadTriangle, value, lambda: fault(value=value))
                    check_raises(self, BadTriangle, value, lambda: line_of(value))
                    check_raises(self, BadTriangle, value, lambda: line_by(value, None))
                    check_raises(self, BadTriangle, value, lambda: line_by(triangle=value, sides=[[2], [2, 1]]))

    def test_any_values(self):
        for value in odd_values() + strange_values():
            self.assertIs(is_triangle(value), False)
            self.assertIs(is_triangle([[0, 0], value]), False)
            self.assertIs(is_triangle([value, [0, 0]]), False)
            if type(value) is not int and type(value) is not Ratio:
                self.assertIs(is_triangle([[0, value]]), False)
                self.assertIs(is_triangle([[value]]), False)

    def test_sizes(self):
        for jobs, servers in itertools.product(range(1, 9), range(1, 7)):
            value = [[0] * servers] * jobs
            if jobs > 6 or servers > 4:
                self.assertIs(is_triangle(value), False)
                check_raises(self, BadTriangle, value, lambda: fault(value))
            else:
                self.check(fractions(value), None)


def table_of(numbers, servers):
    return [list(numbers[at:at + servers]) for at in range(0, len(numbers), servers)]


class ToldBack(unittest.TestCase):
    def test_pushed_lines(self):
        for rows in many_rows(103, 4):
            line = Line(ratio_rows(rows))
            table = triangle(line)
            found = line_of(table)
            self.assertIs(type(found), Line)
            self.assertEqual(fractions(found.rows()), push(rows))
            self.assertEqual(line_of(triangle=tuple([tuple(row) for row in table])), found)
            self.assertEqual((is_pushed(found), pushed(line)), (True, found))
            self.assertEqual(fractions(table), triangle_by_push(rows))

    def test_drawn_triangles(self):
        source = drawn(104)
        for servers, jobs in itertools.product(range(1, 5), range(1, 7)):
            for _ in range(3):
                table = drawn_triangle(source, servers, jobs)
                found = line_of(ratio_rows(table))
                self.assertEqual(fractions(triangle(found)), table)
                self.assertIs(is_pushed(found), True)
                self.assertEqual(triangle_by_push(fractions(found.rows())), table)

    def test_long_numbers(self):
        table = [[LONG, 0], [Ratio(LONG * LONG + 1, LONG), LONG]]
        self.assertEqual(line_of(table).text(), f"0 {LONG}\n{LONG} 1/{LONG}")
        full = Line([[Ratio(LONG - 7 * job, LONG - 3 * server) for job in range(6)] for server in range(4)])
        self.assertEqual(line_of(triangle(full)), pushed(full))
        self.assertEqual(line_by(triangle(full), sides(full)), full)
        self.assertIs(is_triangle(triangle(full)), True)

    def test_equal_answers(self):
        self.assertEqual(line_of([[2, 0], [2, 1]]), line_of(((Ratio(2), 0), (Ratio(4, 2), Ratio(1)))))
        told = line_by(((2, 0), (2, 1)), ((Ratio(1),), (2, Ratio(1))))
        self.assertEqual(line_by([[2, 0], [2, 1]], [[1], [2, 1]]), told)

    def test_nothing_is_kept(self):
        table, others = [[2, 0], [2, 1]], [[2], [2, 1]]
        found, other = line_of(table), line_by(table, others)
        self.assertEqual((table, others), ([[2, 0], [2, 1]], [[2], [2, 1]]))
        table[0][0] = others[0][0] = None
        self.assertEqual((found.text(), other.text()), ("0 1\n2 0", "1 1\n1 0"))


def drawn_triangle(source, servers, jobs):
    """Lists of numbers within the bounds, often at them."""
    ahead = [Fraction(0)] * servers
    found = []
    for _ in range(jobs):
        row = []
        for index, least in enumerate(ahead):
            most = ahead[index - 1] if index else least + source.randint(0, 4)
            row.append(least + (most - least) * Fraction(source.randint(0, 3), 3))
        found.append(row)
        ahead = row
    return found


def drawn_sides(source, last, jobs):
    """Lists of numbers within the bounds, often at them, that end with the last one."""
    found = [last]
    while len(found[0]) > 1:
        behind = found[0]
        pairs = zip(behind, behind[1:])
        found.insert(0, [less + (more - less) * Fraction(source.randint(0, 3), 3) for more, less in pairs])
    return found


class Sides(unittest.TestCase):
    def test_drawn_lines(self):
        source = drawn(105)
        for rows in many_rows(106, 4):
            line = Line(ratio_rows(rows))
            told = sides(line)
            self.assertIs(type(told), list)
            for row in told:
                check_texts(self, row, [number.text() for number in row])
            self.assertEqual(fractions(told), sides_by_push(rows))
            self.assertEqual(sides(line=line), told)
            self.assertEqual(line_by(triangle(line), told), line)
            other = walked(source, line, 3)
            self.assertEqual(line_by(triangle=triangle(line), sides=sides(other)), other)

    def test_all_small_lines(self):
        for servers, jobs, most in ((2, 3, 3), (3, 2, 3), (4, 1, 3), (4, 2, 2), (1, 4, 2)):
            seen = []
            for rows in light_rows(servers, jobs, most):
                line = Line(ratio_rows(rows))
                told = (fractions(triangle(line)), fractions(sides(line)))
                self.assertNotIn(told, seen)
                seen.append(told)
                self.assertEqual(told, (triangle_by_push(rows), sides_by_push(rows)))
                self.assertEqual(line_by(ratio_rows(told[0]), ratio_rows(told[1])), line)

    def test_drawn_sides(self):
        source = drawn(107)
        for servers, jobs in itertools.product(range(1, 5), range(1, 7)):
            for _ in range(5):
                table = drawn_triangle(source, servers, jobs)
                told = drawn_sides(source, table[-1], jobs)
                found = line_by(ratio_rows(table), tuple([tuple(row) for row in ratio_rows(told)]))
                self.assertIs(type(found), Line)
                rows = fractions(found.rows())
                self.assertEqual((triangle_by_push(rows), sides_by_push(rows)), (table, told))
                self.assertEqual(fractions(sides(found)), told)

    def test_lists_are_new(self):
        line = Line([[1, 1], [1, 0]])
        told = sides(line)
        told[1].clear()
        told.clear()
        self.assertEqual(fractions(sides(line)), [[2], [2, 1]])
        self.assertEqual(line.text(), "1 1\n1 0")


class WrongSides(unittest.TestCase):
    def check(self, table, value):
        check_raises(self, BadSides, value, lambda: line_by(table, value))
        check_raises(self, BadSides, value, lambda: line_by(triangle=table, sides=value))

    def test_any_values(self):
        for table in ([[2, 0], [2, 1]], [[3]], [[0] * 4] * 6):
            for value in odd_values():
                self.check(table, value)
            for value in values_but(int, Ratio):
                if value not in ([0], (0,)):
                    self.check(table, [value] + [[0] * size for size in range(2, len(table[0]) + 1)])
                self.check(table, [[value]] + [[0] * size for size in range(2, len(table[0]) + 1)])

    def test_all_small_ones(self):
        # What is no list of sides of any line with the triangle must be refused.
        for jobs, most in ((1, 2), (2, 2), (3, 2)):
            known = {}
            for rows in light_rows(2, jobs, most):
                known.setdefault(str(triangle_by_push(rows)), []).append((triangle_by_push(rows), sides_by_push(rows)))
            for fitting in known.values():
                table = ratio_rows(fitting[0][0])
                for numbers in itertools.product(range(-1, most + 2), repeat=3):
                    value = [[numbers[0]], list(numbers[1:])]
                    if fractions(value) in [told for _, told in fitting]:
                        self.assertEqual(fractions(sides(line_by(table, value))), fractions(value))
                    else:
                        self.check(table, value)

    def test_near_ones(self):
        source = drawn(108)
        for servers, jobs in itertools.product(range(1, 5), (1, 2, 6)):
            table = drawn_triangle(source, servers, jobs)
            told = drawn_sides(source, table[-1], jobs)
            for size in range(servers):
                for index, more in itertools.product(range(size + 1), (Fraction(1, 99), -Fraction(1, 99), 99, -99)):
                    near = [list(row) for row in told]
                    near[size][index] += more
                    if size + 1 < servers and within(near, size, index):
                        rows = fractions(line_by(ratio_rows(table), ratio_rows(near)).rows())
                        self.assertEqual((triangle_by_push(rows), sides_by_push(rows)), (table, near))
                    else:
                        self.check(ratio_rows(table), ratio_rows(near))

    def test_at_the_bounds(self):
        table = [[2, 0, 0], [5, 1, 0], [6, 4, 1]]
        for value, expected in (
            ([[4], [6, 1], [6, 4, 1]], True), ([[1], [4, 1], [6, 4, 1]], True), ([[6], [6, 4], [6, 4, 1]], True),
            ([[7], [6, 4], [6, 4, 1]], False), ([[0], [4, 1], [6, 4, 1]], False), ([[4], [7, 1], [6, 4, 1]], False),
            ([[4], [3, 1], [6, 4, 1]], False), ([[4], [6, 5], [6, 4, 1]], False), ([[4], [6, 0], [6, 4, 1]], False),
            ([[4], [6, 1], [6, 4, 0]], False), ([[4], [6, 1], [6, 4, 2]], False), ([[4], [6, 1], [6, 5, 1]], False),
            ([[HALF + 3], [4, 1], [6, 4, 1]], True), ([[4], [Ratio(9, 2), Ratio(3, 2)], [6, 4, Ratio(1)]], True),
        ):
            if expected:
                self.assertEqual(fractions(sides(line_by(table, value))), fractions(value))
            else:
                self.check(table, value)

    def test_few_jobs(self):
        # One job has but one number other than 0, whatever the sides of more jobs could be.
        table = [[3, 0, 0]]
        self.assertEqual(line_by(table, [[1], [1, 0], [3, 0, 0]]).text(), "1\n0\n2")
        for value in (
            [[1], [1, 1], [3, 0, 0]], [[1], [2, 1], [3, 1, 0]], [[1], [2, 1], [3, 0, 0]], [[1], [1, 0], [3, 0, 1]],
        ):
            self.check(table, value)
        self.assertEqual(line_by([[0], [0]], [[0]]).text(), "0 0")
        self.check([[0], [0]], [[1]])
        self.check([[0, 0], [0, 0]], [[0], [0, -1]])

    def test_sizes(self):
        table = [[2, 0], [2, 1]]
        for value in (
            [[2], [2, 1], [2, 1, 0]], [[2, 1]], [[2, 1], [2]], [[2, 1], [2, 1]], [[2], [2]], [[2], [2, 1, 0]],
            [[], [2, 1]],
            [[2], []], [2, [2, 1]], [[2], 2], [2, 2, 1], [[2], [2, 1], []], [[], [2], [2, 1]], [[[2]], [2, 1]],
            ["2", [2, 1]],
            [[2], "21"], [[2], {"2": 1, "1": 0}], [["2"], [2, 1]], [[True], [2, 1]], [[2], [2, True]], [[None], [2, 1]],
        ):
            self.check(table, value)
        self.assertEqual(line_by(table, [(2,), (2, 1)]).text(), "1 1\n1 0")

    def test_triangle_first(self):
        for value in odd_values() + [[[2, 1]], [[2, 0], [2, 3]], [[-1]]]:
            for other in (None, [[2], [2, 1]], "sides", [[0]]):
                check_raises(self, BadTriangle, value, lambda: line_by(value, other))


def within(told, size, index):
    """Whether a number is within the bounds of the lists ahead and behind, by the words of [62]."""
    number, behind = told[size][index], told[size + 1]
    if not behind[index + 1] <= number <= behind[index]:
        return False
    if size and index < size and number < told[size - 1][index]:
        return False
    return not index or number <= told[size - 1][index - 1]
