"""Points [7], [30] to [33], and [9], [10] for them: brackets, room and moves."""

import itertools
import unittest
from fractions import Fraction

from tandems.errors import BadAmount, BadServer, Unlike
from tandems.lines import Line
from tandems.moves import is_moved, lone, moved_down, moved_up, pairs, room_down, room_up
from tandems.ratios import Ratio
from tests.oracles import bracket, drawn, drawn_arrivals, drawn_rows, move, ratio_rows, ratios, reaches_by_ways, serve
from tests.support import (
    check_raises, check_raises_plain, check_texts, fraction, fractions, odd_values, values_but,
)

LONG = 10 ** 40 - 1
HALF = Ratio(1, 2)
SMALL = [fractions([times[:3], times[3:]]) for times in itertools.product((0, 1, 2), repeat=6)]


def many_rows(seed, draws):
    """Drawn lines of 2 to 4 servers and 1 to 6 jobs, some with a server of noughts."""
    source = drawn(seed)
    for servers, jobs in itertools.product(range(2, 5), range(1, 7)):
        for _ in range(draws):
            yield drawn_rows(source, servers, jobs)
        rows = drawn_rows(source, servers, jobs)
        yield rows[1:] + fractions([[0] * jobs])
        yield fractions([[0] * jobs]) + rows[1:]


def shown(told):
    return [(job, later, amount.text()) for job, later, amount in told]


class Brackets(unittest.TestCase):
    def check(self, rows, server):
        line = Line(ratio_rows(rows))
        answer = lone(line, server)
        self.assertIs(type(answer), tuple)
        upper, lower = answer
        for row in answer:
            check_texts(self, row, [number.text() for number in row])
        above, below, paired = bracket(rows[server], rows[server + 1])
        self.assertEqual(fractions(answer), [above, below])
        told = pairs(line, server)
        self.assertIs(type(told), list)
        for pair in told:
            self.assertIs(type(pair), tuple)
            self.assertEqual([type(item) for item in pair], [int, int, Ratio])
        expected = [(job, later, paired[job, later]) for job, later in sorted(paired)]
        self.assertEqual([(job, later, fraction(amount)) for job, later, amount in told], expected)
        self.assertEqual(fraction(room_down(line, server)), sum(above))
        self.assertEqual(fraction(room_up(line, server)), sum(below))
        self.assertEqual([type(room_down(line, server)), type(room_up(line, server))], [Ratio, Ratio])

    def test_small_lines(self):
        for rows in SMALL:
            self.check(rows, 0)

    def test_drawn_lines(self):
        for rows in many_rows(21, 8):
            for server in range(len(rows) - 1):
                self.check(rows, server)

    def test_later_jobs_first(self):
        line = Line([[0, 0, 1], [1, 1, 0]])
        self.assertEqual(shown(pairs(line, 0)), [(1, 2, "1")])
        self.assertEqual(fractions(lone(line, 0)), [[0, 0, 0], [1, 0, 0]])

    def test_the_same_job_is_never_paired(self):
        line = Line([[1], [1]])
        self.assertEqual((pairs(line, 0), fractions(lone(line, 0))), ([], [[1], [1]]))
        line = Line([[0, 2], [1, 2]])
        self.assertEqual((shown(pairs(line, 0)), fractions(lone(line, 0))), ([(0, 1, "1")], [[0, 1], [0, 2]]))

    def test_upper_times_for_later_jobs_alone(self):
        line = Line([[5, 0], [0, 5]])
        self.assertEqual((pairs(line, 0), fractions(lone(line, 0))), ([], [[5, 0], [0, 5]]))

    def test_ascending(self):
        line = Line([[0, 2, 2], [3, 1, 0]])
        self.assertEqual(shown(pairs(line, 0)), [(0, 1, "2"), (0, 2, "1"), (1, 2, "1")])
        line = Line([[0, 0, 2, 3], [1, 2, 1, 4]])
        self.assertEqual(shown(pairs(line, 0)), [(0, 3, "1"), (1, 2, "2"), (2, 3, "1")])
        self.assertEqual(fractions(lone(line, 0)), [[0, 0, 0, 1], [0, 0, 0, 4]])

    def test_parts_of_numbers(self):
        line = Line([[0, HALF], [Ratio(1, 3), 0]])
        self.assertEqual(shown(pairs(line, 0)), [(0, 1, "1/3")])
        self.assertEqual([number.text() for number in lone(line, 0)[0]], ["0", "1/6"])
        self.assertEqual((room_down(line, 0).text(), room_up(line, 0).text()), ("1/6", "0"))

    def test_long_numbers(self):
        line = Line([[1, LONG], [LONG - 1, Ratio(1, LONG)]])
        self.assertEqual(shown(pairs(line, 0)), [(0, 1, str(LONG - 1))])
        self.assertEqual((room_down(line, 0).text(), room_up(line, 0).text()), ("2", f"1/{LONG}"))

    def test_each_pair_of_servers(self):
        line = Line([[0, 1], [2, 3], [4, 5], [6, 7]])
        found = [(shown(pairs(line, server)), room_down(line, server).text(), room_up(line, server).text())
                 for server in range(3)]
        self.assertEqual(found, [([(0, 1, "1")], "0", "4"), ([(0, 1, "3")], "2", "6"), ([(0, 1, "5")], "4", "8")])

    def test_names_and_equal_answers(self):
        line, same = Line([[1, 1], [1, 0]]), Line(((Ratio(1), 1), (Ratio(3, 3), 0)))
        self.assertEqual(lone(line=line, server=0), lone(server=0, line=same))
        self.assertEqual(pairs(line=line, server=0), pairs(server=0, line=same))
        self.assertEqual(room_down(line=line, server=0), room_down(server=0, line=same))
        self.assertEqual(room_up(line=line, server=0), room_up(server=0, line=same))

    def test_lists_are_new(self):
        line = Line([[1, 1], [1, 0]])
        upper, lower = lone(line, 0)
        upper[0] = lower[0] = None
        upper.clear()
        pairs(line, 0).clear()
        self.assertEqual(fractions(lone(line, 0)), [[1, 0], [0, 0]])
        self.assertEqual(shown(pairs(line, 0)), [(0, 1, "1")])
        self.assertEqual(line.text(), "1 1\n1 0")


class Moves(unittest.TestCase):
    def check(self, rows, server, part):
        """Check a move down and a move up by a part of the room."""
        line = Line(ratio_rows(rows))
        above, below, _ = bracket(rows[server], rows[server + 1])
        for moved, room, sign in ((moved_down, sum(above), 1), (moved_up, sum(below), -1)):
            amount = room * part
            given = ratios([amount])[0]
            answer = moved(line, server, given)
            self.assertIs(type(answer), Line)
            self.assertEqual(fractions(answer.rows()), move(rows, server, sign * amount))
            self.assertEqual(moved(line=line, server=server, amount=given), answer)
            self.assertIs(is_moved(line, answer, server), True)
            self.assertIs(is_moved(answer, line, server), True)
        self.assertEqual(fractions(line.rows()), rows)

    def test_small_lines(self):
        for rows in SMALL:
            for part in (0, Fraction(1, 2), 1):
                self.check(rows, 0, part)

    def test_drawn_lines(self):
        for rows in many_rows(22, 4):
            for server in range(len(rows) - 1):
                for part in (0, Fraction(1, 3), Fraction(5, 7), 1):
                    self.check(rows, server, part)

    def test_the_last_jobs_first_down(self):
        line = Line([[2, 1, 3], [0, 0, 0]])
        for amount, upper, lower in (
            (0, "2 1 3", "0 0 0"), (1, "2 1 2", "0 0 1"), (HALF, "2 1 5/2", "0 0 1/2"), (3, "2 1 0", "0 0 3"),
            (Ratio(7, 2), "2 1/2 0", "0 1/2 3"), (4, "2 0 0", "0 1 3"), (5, "1 0 0", "1 1 3"), (6, "0 0 0", "2 1 3"),
        ):
            self.assertEqual(moved_down(line, 0, amount).text(), upper + "\n" + lower)

    def test_the_first_jobs_first_up(self):
        line = Line([[0, 0, 0], [2, 1, 3]])
        for amount, upper, lower in (
            (0, "0 0 0", "2 1 3"), (1, "1 0 0", "1 1 3"), (HALF, "1/2 0 0", "3/2 1 3"), (2, "2 0 0", "0 1 3"),
            (Ratio(5, 2), "2 1/2 0", "0 1/2 3"), (3, "2 1 0", "0 0 3"), (4, "2 1 1", "0 0 2"), (6, "2 1 3", "0 0 0"),
        ):
            self.assertEqual(moved_up(line, 0, amount).text(), upper + "\n" + lower)

    def test_paired_times_stay(self):
        line = Line([[1, 3, 0], [2, 0, 4]])
        self.assertEqual(moved_down(line, 0, 1).text(), "1 2 0\n2 1 4")
        self.assertEqual(moved_down(line, 0, 2).text(), "0 2 0\n3 1 4")
        self.assertEqual(moved_up(line, 0, 4).text(), "1 3 4\n2 0 0")

    def test_other_servers_stay(self):
        line = Line([[9, 8], [1, 2], [0, 0], [7, 6]])
        self.assertEqual(moved_down(line, 1, 3).text(), "9 8\n0 0\n1 2\n7 6")
        self.assertEqual(moved_up(line, 2, Ratio(13)).text(), "9 8\n1 2\n7 6\n0 0")
        self.assertEqual(moved_down(line, 0, 16).text(), "0 1\n10 9\n0 0\n7 6")

    def test_long_amounts(self):
        line = Line([[LONG, 0], [0, LONG]])
        self.assertEqual(moved_down(line, 0, LONG).text(), f"0 0\n{LONG} {LONG}")
        self.assertEqual(moved_up(line, 0, Ratio(1, LONG)).time(0, 1).text(), f"1/{LONG}")

    def test_equal_answers(self):
        line, same = Line([[2, 1], [0, 3]]), Line(((Ratio(2), 1), (0, Ratio(3))))
        self.assertEqual(moved_down(line, 0, 2), moved_down(same, 0, Ratio(4, 2)))
        self.assertEqual(moved_up(line, 0, 2), moved_up(same, 0, Ratio(2)))
        self.assertEqual((line.text(), same.text()), ("2 1\n0 3", "2 1\n0 3"))


class WhatHolds(unittest.TestCase):
    def test_where_lone_times_stand(self):
        for rows in list(many_rows(23, 8)) + SMALL:
            for server in range(len(rows) - 1):
                upper, lower = lone(Line(ratio_rows(rows)), server)
                last = [job for job, time in enumerate(upper) if time != 0][-1:]
                first = [job for job, time in enumerate(lower) if time != 0][:1]
                if last and first:
                    self.assertLessEqual(last, first)

    def test_behind_moves(self):
        for rows in many_rows(24, 4):
            line = Line(ratio_rows(rows))
            for server, bottom in itertools.product(range(len(rows) - 1), (1, 2, 3)):
                down, up = room_down(line, server), room_up(line, server)
                amount, other = down.over(bottom), up.over(bottom)
                lower, upper = moved_down(line, server, amount), moved_up(line, server, other)
                self.assertEqual(pairs(lower, server), pairs(line, server))
                self.assertEqual(pairs(upper, server), pairs(line, server))
                self.assertEqual([room_down(lower, server), room_up(lower, server)], [down - amount, up + amount])
                self.assertEqual([room_down(upper, server), room_up(upper, server)], [down + other, up - other])
                self.assertEqual(moved_up(lower, server, amount), line)
                self.assertEqual(moved_down(upper, server, other), line)

    def test_ends_stay(self):
        source = drawn(25)
        for rows in many_rows(26, 3):
            line = Line(ratio_rows(rows))
            for server in range(len(rows) - 1):
                for moved, room in ((moved_down, room_down), (moved_up, room_up)):
                    for bottom in (1, 2):
                        others = fractions(moved(line, server, room(line, server).over(bottom)).rows())
                        self.assertEqual(reaches_by_ways(others), reaches_by_ways(rows))
                        for _ in range(3):
                            arrivals = drawn_arrivals(source, len(rows[0]))
                            self.assertEqual(serve(others, arrivals), serve(rows, arrivals))


class IsMoved(unittest.TestCase):
    def test_small_lines(self):
        for rows in SMALL[::2]:
            moved = [move(rows, 0, Fraction(amount)) for amount in range(
                -int(sum(bracket(*rows)[1])), int(sum(bracket(*rows)[0])) + 1,
            )]
            for upper in itertools.product((0, 1, 2), repeat=3):
                sums = [sum(column) for column in zip(*rows)]
                lower = [time - other for time, other in zip(sums, upper)]
                if min(lower) >= 0:
                    others = [list(upper), lower]
                    expected = others in moved
                    self.assertIs(is_moved(Line(ratio_rows(rows)), Line(ratio_rows(fractions(others))), 0), expected)

    def test_near_ones(self):
        for rows in many_rows(27, 2):
            line = Line(ratio_rows(rows))
            for server in range(len(rows) - 1):
                self.assertIs(is_moved(line, line, server), True)
                above, below, _ = bracket(rows[server], rows[server + 1])
                for amount in (sum(above), -sum(below), sum(above) / 2):
                    others = move(rows, server, amount)
                    for at, job in itertools.product(range(len(rows)), range(len(rows[0]))):
                        near = [list(row) for row in others]
                        near[at][job] += Fraction(1, 5)
                        self.assertIs(is_moved(line, Line(ratio_rows(near)), server), False)
                        self.assertIs(is_moved(Line(ratio_rows(near)), line, server), False)

    def test_other_servers(self):
        line = Line([[2, 1], [0, 0], [3, 0]])
        lower, upper = moved_down(line, 0, 2), moved_up(line, 1, 2)
        self.assertEqual([is_moved(line, lower, 0), is_moved(line, lower, 1)], [True, False])
        self.assertEqual([is_moved(line, upper, 0), is_moved(line, upper, 1)], [False, True])
        self.assertIs(is_moved(line, moved_up(lower, 1, 1), 0), False)

    def test_beyond_the_room(self):
        # The same totals as behind a move, but of paired time.
        self.assertIs(is_moved(Line([[0, 2], [2, 0]]), Line([[0, 1], [2, 1]]), 0), False)
        self.assertIs(is_moved(Line([[0, 2], [2, 0]]), Line([[1, 2], [1, 0]]), 0), False)
        self.assertIs(is_moved(Line([[1, 2], [2, 0]]), Line([[0, 2], [3, 0]]), 0), True)
        self.assertIs(is_moved(Line([[1, 2], [2, 0]]), Line([[0, 1], [3, 1]]), 0), False)

    def test_other_jobs_first(self):
        self.assertIs(is_moved(Line([[1, 1], [0, 0]]), Line([[0, 1], [1, 0]]), 0), False)
        self.assertIs(is_moved(Line([[1, 1], [0, 0]]), Line([[1, 0], [0, 1]]), 0), True)
        self.assertIs(is_moved(Line([[0, 0], [1, 1]]), Line([[0, 1], [1, 0]]), 0), False)
        self.assertIs(is_moved(Line([[0, 0], [1, 1]]), Line([[1, 0], [0, 1]]), 0), True)

    def test_names(self):
        line, other = Line([[1, 1], [1, 0]]), Line([[0, 1], [2, 0]])
        self.assertIs(is_moved(one=line, other=other, server=0), True)
        self.assertIs(is_moved(server=0, other=Line([[1, 0], [1, 1]]), one=line), False)
        self.assertEqual((line.text(), other.text()), ("1 1\n1 0", "0 1\n2 0"))


def no_servers(servers):
    """Values that are no server of a line with another one behind it."""
    return values_but(int) + [
        -1, -servers, servers - 1, servers, servers + 1, 10 ** 45, -(10 ** 45), Ratio(0), Ratio(servers - 1), 0.0,
    ]


class WrongServers(unittest.TestCase):
    def test_all(self):
        for servers, jobs in itertools.product(range(1, 5), (1, 6)):
            line = Line([[1] * jobs] * servers)
            for value in no_servers(servers):
                for told in (lone, pairs, room_down, room_up):
                    check_raises(self, BadServer, value, lambda: told(line, value))
                    check_raises(self, BadServer, value, lambda: told(line=line, server=value))
                check_raises(self, BadServer, value, lambda: is_moved(line, line, value))
                check_raises(self, BadServer, value, lambda: is_moved(one=line, other=line, server=value))

    def test_ahead_of_the_amount(self):
        line = Line([[1, 1], [1, 0], [2, 2]])
        for value in no_servers(3):
            for amount in (0, 1, -1, 10 ** 9, None, "1", [1]):
                for moved in (moved_down, moved_up):
                    check_raises(self, BadServer, value, lambda: moved(line, value, amount))
                    check_raises(self, BadServer, value, lambda: moved(line=line, server=value, amount=amount))
        self.assertEqual(line.text(), "1 1\n1 0\n2 2")

    def test_one_server(self):
        line = Line([[1, 2]])
        for value in (0, 1, -1, None):
            for told in (lone, pairs, room_down, room_up):
                check_raises(self, BadServer, value, lambda: told(line, value))


class WrongAmounts(unittest.TestCase):
    def check(self, line, value):
        for moved in (moved_down, moved_up):
            check_raises(self, BadAmount, value, lambda: moved(line, 0, value))
            check_raises(self, BadAmount, value, lambda: moved(line=line, server=0, amount=value))

    def test_no_numbers(self):
        for line in (Line([[3, 0], [0, 3]]), Line([[0], [0]])):
            for value in values_but(int, Ratio):
                self.check(line, value)

    def test_numbers_out_of_range(self):
        line = Line([[3, 0], [0, 3]])
        for value in (-1, 4, LONG, -LONG, Ratio(-1), Ratio(-1, LONG), Ratio(4), Ratio(3 * LONG + 1, LONG), Ratio(10, 3)):
            self.check(line, value)
        for value in (0, 1, 3, Ratio(0), Ratio(3), Ratio(3 * LONG - 1, LONG)):
            self.assertIs(is_moved(line, moved_down(line, 0, value), 0), True)
            self.assertIs(is_moved(line, moved_up(line, 0, value), 0), True)

    def test_a_little_beyond_the_room(self):
        for rows in many_rows(28, 2):
            line = Line(ratio_rows(rows))
            for server in range(len(rows) - 1):
                for moved, room in ((moved_down, room_down), (moved_up, room_up)):
                    most = room(line, server)
                    for value in (most + Ratio(1, LONG), most + 1, Ratio(-1, LONG)):
                        check_raises(self, BadAmount, value, lambda: moved(line, server, value))

    def test_each_room_alone(self):
        line = Line([[2, 0], [0, 1]])
        self.assertEqual(moved_down(line, 0, 2).text(), "0 0\n2 1")
        check_raises(self, BadAmount, 2, lambda: moved_up(line, 0, 2))
        line = Line([[1, 0], [0, 2]])
        self.assertEqual(moved_up(line, 0, 2).text(), "1 2\n0 0")
        check_raises(self, BadAmount, 2, lambda: moved_down(line, 0, 2))
        line = Line([[0, 1], [1, 0]])
        self.check(line, 1)
        self.assertEqual(moved_down(line, 0, 0), line)
        self.assertEqual(moved_up(line, 0, Ratio(0)), line)


class UnlikeLines(unittest.TestCase):
    def test_sizes(self):
        for servers, others, jobs, more in itertools.product(range(1, 5), range(1, 5), (1, 2, 6), (1, 2, 6)):
            one, other = Line([[1] * jobs] * servers), Line([[1] * more] * others)
            if (servers, jobs) != (others, more):
                for value in [0, 1, 9] + odd_values()[:4]:
                    check_raises_plain(self, Unlike, lambda: is_moved(one, other, value))
                    check_raises_plain(self, Unlike, lambda: is_moved(one=one, other=other, server=value))
            elif servers > 1:
                self.assertIs(is_moved(one, other, 0), True)

    def test_ahead_of_any_server(self):
        for value in odd_values():
            check_raises_plain(self, Unlike, lambda: is_moved(Line([[1, 1]] * 2), Line([[1, 1]] * 3), value))
            check_raises_plain(self, Unlike, lambda: is_moved(Line([[1, 1]] * 2), Line([[1]] * 2), value))
