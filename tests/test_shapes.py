"""Points [6], [8], [52], [53], and [9], [10] for them: shapes, triangles, pushed lines."""

import itertools
import unittest
from fractions import Fraction

from tandems.errors import BadJob
from tandems.lines import Line
from tandems.moves import is_moved, lone, moved_up, room_up
from tandems.ratios import Ratio
from tandems.shapes import is_pushed, pushed, pushing, shape, triangle
from tandems.turns import by_totals, risen, served_in, turned
from tests.draws import many_rows, stretches, walked
from tests.oracles import (
    bracket, drawn, drawn_rows, move, push, ratio_rows, shape_by_push, shape_by_ways, triangle_by_push,
    triangle_by_ways,
)
from tests.support import check_raises, check_texts, fraction, fractions, values_but

LONG = 10 ** 40 - 1
HALF = Ratio(1, 2)
SMALL = [fractions([times[:3], times[3:]]) for times in itertools.product((0, 1, 2), repeat=6)]
# The sizes of lines with so few ways that all choices of them can be tried.
FEW = [(1, 1), (1, 6), (2, 1), (2, 2), (2, 4), (2, 6), (3, 1), (3, 2), (3, 3), (4, 1), (4, 2)]


class Shapes(unittest.TestCase):
    def check(self, rows, first, last, expected):
        line = Line(ratio_rows(rows))
        answer = shape(line, first, last)
        check_texts(self, answer, [number.text() for number in answer])
        self.assertEqual([fraction(number) for number in answer], expected)
        self.assertEqual(shape(line=line, first=first, last=last), answer)

    def test_small_lines(self):
        for rows in SMALL[::3]:
            for first, last in stretches(3):
                self.check(rows, first, last, shape_by_ways(rows, first, last))

    def test_drawn_lines_by_all_choices(self):
        source = drawn(71)
        for servers, jobs in FEW:
            for _ in range(3):
                rows = drawn_rows(source, servers, jobs)
                self.check(rows, 0, jobs - 1, shape_by_ways(rows, 0, jobs - 1))

    def test_full_lines(self):
        for rows in many_rows(72, 2):
            for first, last in stretches(len(rows[0])):
                self.check(rows, first, last, shape_by_push(rows, first, last))

    def test_one_job(self):
        line = Line([[1, 5], [2, 0], [0, 7], [4, 1]])
        self.assertEqual([number.text() for number in shape(line, 0, 0)], ["7", "0", "0", "0"])
        self.assertEqual([number.text() for number in shape(line, 1, 1)], ["13", "0", "0", "0"])

    def test_one_server(self):
        line = Line([[1, 5, HALF]])
        self.assertEqual([number.text() for number in shape(line, 0, 2)], ["13/2"])
        self.assertEqual([[number.text() for number in row] for row in triangle(line)], [["1"], ["6"], ["13/2"]])

    def test_lists_are_new(self):
        line = Line([[1, 1], [1, 0]])
        shape(line, 0, 1).clear()
        found = triangle(line)
        found[0].clear()
        found.append(None)
        self.assertEqual([number.text() for number in shape(line, 0, 1)], ["2", "1"])
        self.assertEqual(fractions(triangle(line)), [[2, 0], [2, 1]])
        self.assertEqual(line.text(), "1 1\n1 0")

    def test_wrong_jobs(self):
        for servers, jobs in ((1, 1), (4, 6), (2, 3)):
            line = Line([[1] * jobs] * servers)
            for value in values_but(int) + [-1, jobs, jobs + 1, 10 ** 45, Ratio(0), Ratio(jobs - 1)]:
                for last in (0, None, "1", jobs):
                    check_raises(self, BadJob, value, lambda: shape(line, value, last))
                    check_raises(self, BadJob, value, lambda: shape(line=line, first=value, last=last))
                check_raises(self, BadJob, value, lambda: shape(line, 0, value))
                check_raises(self, BadJob, value, lambda: shape(line=line, first=0, last=value))
        for first, last in itertools.product(range(6), range(6)):
            if last < first:
                check_raises(self, BadJob, last, lambda: shape(Line([[1] * 6] * 4), first, last))


class Triangles(unittest.TestCase):
    def check(self, rows, expected):
        line = Line(ratio_rows(rows))
        answer = triangle(line)
        self.assertIs(type(answer), list)
        for row in answer:
            check_texts(self, row, [number.text() for number in row])
        self.assertEqual(fractions(answer), expected)
        self.assertEqual(triangle(line=line), answer)
        self.assertEqual(answer, [shape(line, 0, last) for last in range(line.jobs())])

    def test_small_lines(self):
        for rows in SMALL[::2]:
            self.check(rows, triangle_by_ways(rows))

    def test_drawn_lines_by_all_choices(self):
        source = drawn(73)
        for servers, jobs in FEW:
            rows = drawn_rows(source, servers, jobs)
            self.check(rows, triangle_by_ways(rows))

    def test_full_lines(self):
        for rows in many_rows(74, 3):
            self.check(rows, triangle_by_push(rows))

    def test_all_times_nought(self):
        for servers, jobs in itertools.product((1, 4), (1, 6)):
            self.check(fractions([[0] * jobs] * servers), [[0] * servers] * jobs)

    def test_shapes_interlace(self):
        for rows in many_rows(75, 3):
            line = Line(ratio_rows(rows))
            table = fractions(triangle(line))
            for ahead, behind in zip([[0] * len(rows)] + table, table):
                self.assertTrue(all([less <= more for less, more in zip(ahead, behind)]))
                self.assertTrue(all([less <= more for less, more in zip(behind[1:], ahead)]))
                self.assertEqual(sorted(behind, reverse=True), behind)
            for job, row in enumerate(table):
                self.assertLessEqual(len([number for number in row if number]), job + 1)

    def test_long_numbers(self):
        rows = [[Fraction(LONG - 7 * job, LONG - 3 * server) for job in range(6)] for server in range(4)]
        table = fractions(triangle(Line(ratio_rows(rows))))
        self.assertEqual([sum(row) for row in table], [sum([sum(row[:size]) for row in rows]) for size in range(1, 7)])
        self.check([[Fraction(LONG), Fraction(1)], [Fraction(1), Fraction(LONG)]], [[LONG + 1, 0], [2 * LONG + 1, 1]])

    def test_moves_turns_and_orders_keep_them(self):
        source = drawn(76)
        for rows in many_rows(77, 1):
            line = Line(ratio_rows(rows))
            expected = triangle(line)
            parts = [shape(line, first, last) for first, last in stretches(line.jobs())]
            servers = range(line.servers())
            others = [walked(source, line, 4), risen(line), by_totals(line, line.totals()[::-1])]
            others += [turned(line, server) for server in servers[:-1]]
            others.append(served_in(line, source.sample(list(servers), len(servers))))
            for other in others:
                self.assertEqual(triangle(other), expected)
                self.assertEqual([shape(other, first, last) for first, last in stretches(line.jobs())], parts)


class Pushed(unittest.TestCase):
    def check(self, rows):
        line = Line(ratio_rows(rows))
        answer = pushed(line)
        self.assertIs(type(answer), Line)
        expected = push(rows)
        self.assertEqual(fractions(answer.rows()), expected)
        self.assertEqual(pushed(line=line), answer)
        self.assertIs(is_pushed(line), rows == expected)
        self.assertIs(is_pushed(line=answer), True)
        self.assertEqual(fractions(line.rows()), rows)
        for server in range(line.servers() - 1):
            self.assertEqual(sum(bracket(expected[server], expected[server + 1])[0]), 0)

    def check_steps(self, rows):
        told = pushing(Line(ratio_rows(rows)))
        self.assertEqual(pushing(line=Line(ratio_rows(rows))), told)
        self.assertIs(type(told), list)
        found = rows
        for step in told:
            self.assertEqual([type(step)] + [type(item) for item in step], [tuple, int, Ratio])
            server, amount = step
            self.assertGreater(fraction(amount), 0)
            self.assertLessEqual(fraction(amount), sum(bracket(found[server], found[server + 1])[0]))
            found = move(found, server, fraction(amount))
        self.assertEqual(found, push(rows))

    def test_small_lines(self):
        for rows in SMALL:
            self.check(rows)
            self.check_steps(rows)

    def test_drawn_lines(self):
        for rows in many_rows(78, 5):
            self.check(rows)
            self.check_steps(rows)

    def test_by_differences_of_shapes(self):
        for rows in many_rows(79, 3):
            table = [[0] * len(rows)] + triangle_by_push(rows)
            expected = [
                [behind[index] - ahead[index] for ahead, behind in zip(table, table[1:])]
                for index in reversed(range(len(rows)))
            ]
            self.assertEqual(fractions(pushed(Line(ratio_rows(rows))).rows()), expected)

    def test_just_one(self):
        source = drawn(80)
        for rows in many_rows(81, 2):
            line = Line(ratio_rows(rows))
            expected = pushed(line)
            for _ in range(3):
                line = walked(source, line, 2)
                self.assertEqual(pushed(line), expected)
                self.assertIs(is_pushed(line), line == expected)

    def test_near_pushed_ones(self):
        for rows in many_rows(82, 2):
            line = pushed(Line(ratio_rows(rows)))
            for server in range(line.servers() - 1):
                if Ratio(0) < room_up(line, server):
                    near = moved_up(line, server, room_up(line, server) * Ratio(1, LONG))
                    self.assertIs(is_pushed(near), False)
                    self.assertEqual(pushed(near), line)
                    self.assertIs(is_moved(near, line, server), True)
                    self.assertNotEqual(fractions(lone(near, server))[0], [0] * line.jobs())

    def test_told_lines(self):
        for text, expected in (
            ("1 1\n1 0", "0 1\n2 0"), ("0 1\n2 0", "0 1\n2 0"), ("5", "5"), ("5\n1", "0\n6"),
            ("1\n2\n3\n4", "0\n0\n0\n10"),
            ("3 0\n0 3", "0 0\n3 3"), ("0 3\n3 0", "0 3\n3 0"), ("0 1/2\n1/3 0", "0 1/3\n1/3 1/6"),
            ("0 0\n0 0", "0 0\n0 0"),
        ):
            self.assertEqual(pushed(Line.read(text)).text(), expected)
            self.assertIs(is_pushed(Line.read(text)), text == expected)

    def test_nothing_to_push(self):
        for line in (Line([[5, 0, 7]]), Line([[0] * 6] * 4), Line([[0, 1], [2, 0]])):
            self.assertEqual((pushing(line), pushed(line), is_pushed(line)), ([], line, True))

    def test_lists_are_new(self):
        line = Line([[1, 1], [1, 0]])
        expected = pushing(line)
        pushing(line).clear()
        self.assertEqual(pushing(line), expected)
        pushed(line).rows()[0].clear()
        self.assertEqual(pushed(line).text(), "0 1\n2 0")

    def test_long_numbers(self):
        line = Line([[Ratio(LONG - 7 * job, LONG - 3 * server) for job in range(6)] for server in range(4)])
        self.assertIs(is_pushed(pushed(line)), True)
        self.assertEqual(triangle(pushed(line)), triangle(line))
        self.assertEqual(pushed(Line([[LONG], [Ratio(1, LONG)]])).text(), f"0\n{LONG * LONG + 1}/{LONG}")

    def test_equal_answers(self):
        one, same = Line([[1, 2], [2, 1]]), Line(((Ratio(1), Ratio(4, 2)), (2, Ratio(3, 3))))
        self.assertEqual((pushing(one), pushed(one)), (pushing(same), pushed(same)))
        self.assertEqual((triangle(one), shape(one, 0, 1)), (triangle(same), shape(same, 0, 1)))
