"""Points [7], [8], [40] to [43], and [9], [10] for them: turns, and orders of servers."""

import itertools
import unittest

from tandems.errors import BadOrder, BadServer, BadTotals
from tandems.lines import Line
from tandems.ratios import Ratio
from tandems.turns import by_totals, is_risen, risen, served_in, steps_to, turned
from tests.oracles import drawn, drawn_arrivals, drawn_rows, move, ratio_rows, reaches_by_ways, serve, turn
from tests.support import check_raises, fraction, fractions, odd_values, values_but

LONG = 10 ** 40 - 1
HALF = Ratio(1, 2)
SMALL = [fractions([times[:3], times[3:]]) for times in itertools.product((0, 1, 2), repeat=6)]


def many_rows(seed, draws, sizes=(1, 2, 3, 4)):
    """Drawn lines, some with a server of noughts, some with equal totals."""
    source = drawn(seed)
    for servers, jobs in itertools.product(sizes, range(1, 7)):
        for _ in range(draws):
            yield drawn_rows(source, servers, jobs)
        rows = drawn_rows(source, servers, jobs)
        yield rows[1:] + fractions([[0] * jobs])
        yield fractions([[0] * jobs]) + rows[1:]
        yield [source.sample(rows[0], jobs) for _ in range(servers)]


def orders(servers):
    return [list(order) for order in itertools.permutations(range(servers))]


def walk(servers, steps):
    """The order into which turns bring servers."""
    standing = list(range(servers))
    for step in steps:
        standing[step], standing[step + 1] = standing[step + 1], standing[step]
    return standing


def fewest(servers):
    """For each order, how few turns bring the servers into it, found by trying all."""
    found = {tuple(range(servers)): 0}
    queue = list(found)
    while queue:
        order = queue.pop(0)
        for step in range(servers - 1):
            behind = list(order)
            behind[step], behind[step + 1] = behind[step + 1], behind[step]
            if tuple(behind) not in found:
                found[tuple(behind)] = found[order] + 1
                queue.append(tuple(behind))
    return found


def text_after(line, steps):
    """The text of the line behind turns at these servers."""
    for step in steps:
        line = turned(line, step)
    return line.text()


class Turned(unittest.TestCase):
    def check(self, rows, server):
        line = Line(ratio_rows(rows))
        answer = turned(line, server)
        self.assertIs(type(answer), Line)
        self.assertEqual(fractions(answer.rows()), turn(rows, server))
        self.assertEqual(turned(line=line, server=server), answer)
        totals = line.totals()
        totals[server], totals[server + 1] = totals[server + 1], totals[server]
        self.assertEqual(answer.totals(), totals)
        self.assertEqual(answer.sums(), line.sums())
        self.assertEqual(turned(answer, server), line)
        self.assertEqual(fractions(line.rows()), rows)

    def test_small_lines(self):
        for rows in SMALL:
            self.check(rows, 0)

    def test_drawn_lines(self):
        for rows in many_rows(31, 6, (2, 3, 4)):
            for server in range(len(rows) - 1):
                self.check(rows, server)

    def test_both_ways(self):
        self.assertEqual(turned(Line([[3, 2], [0, 1]]), 0).text(), "1 0\n2 3")
        self.assertEqual(turned(Line([[0, 1], [2, 3]]), 0).text(), "1 4\n1 0")
        self.assertEqual(turned(Line([[1, HALF], [0, 0]]), 0).text(), "0 0\n1 1/2")

    def test_equal_totals_stay(self):
        for rows in ([[1, 2], [2, 1]], [[0, 0], [0, 0]], [[0, 3], [HALF, Ratio(5, 2)]], [[LONG], [LONG]]):
            self.assertEqual(turned(Line(rows), 0), Line(rows))

    def test_one_job(self):
        self.assertEqual(turned(Line([[1], [2], [3]]), 1).text(), "1\n3\n2")

    def test_other_servers_stay(self):
        line = Line([[9, 8], [1, 2], [0, 0], [7, 6]])
        self.assertEqual(turned(line, 1).text(), "9 8\n0 0\n1 2\n7 6")
        self.assertEqual(turned(line, 2).text(), "9 8\n1 2\n7 6\n0 0")

    def test_three_in_a_row(self):
        for rows in many_rows(32, 8, (3, 4)):
            line = Line(ratio_rows(rows))
            for server in range(len(rows) - 2):
                one = text_after(line, [server, server + 1, server])
                self.assertEqual(one, text_after(line, [server + 1, server, server + 1]))

    def test_no_server_shared(self):
        for rows in many_rows(33, 8, (4,)):
            line = Line(ratio_rows(rows))
            self.assertEqual(text_after(line, [0, 2]), text_after(line, [2, 0]))

    def test_ends_stay(self):
        source = drawn(34)
        for rows in many_rows(35, 3, (2, 3, 4)):
            line = Line(ratio_rows(rows))
            for server in range(len(rows) - 1):
                others = fractions(turned(line, server).rows())
                self.assertEqual(reaches_by_ways(others), reaches_by_ways(rows))
                for _ in range(4):
                    arrivals = drawn_arrivals(source, len(rows[0]))
                    self.assertEqual(serve(others, arrivals), serve(rows, arrivals))

    def test_long_numbers(self):
        line = Line([[LONG, 1], [Ratio(1, LONG), 0]])
        answer = turned(line, 0)
        self.assertEqual(answer.totals(), line.totals()[::-1])
        self.assertEqual(turned(answer, 0), line)

    def test_wrong_servers(self):
        for servers, jobs in itertools.product(range(1, 5), (1, 6)):
            line = Line([[1] * jobs] * servers)
            for value in values_but(int) + [
                -1, -servers, servers - 1, servers, servers + 1, 10 ** 45, Ratio(0), Ratio(servers - 1), 0.0,
            ]:
                check_raises(self, BadServer, value, lambda: turned(line, value))
                check_raises(self, BadServer, value, lambda: turned(line=line, server=value))


class ServedIn(unittest.TestCase):
    def test_all_orders(self):
        for rows in many_rows(36, 2):
            line = Line(ratio_rows(rows))
            totals = line.totals()
            for order in orders(len(rows)):
                answer = served_in(line, order)
                self.assertIs(type(answer), Line)
                self.assertEqual(answer.totals(), [totals[server] for server in order])
                self.assertEqual(answer.text(), text_after(line, steps_to(order)))
                self.assertEqual(served_in(line=line, order=tuple(order)), answer)
                self.assertEqual(reaches_by_ways(fractions(answer.rows())), reaches_by_ways(rows))
            self.assertEqual(fractions(line.rows()), rows)

    def test_by_moves(self):
        for rows in many_rows(37, 1):
            for order in orders(len(rows)):
                others = rows
                for step in steps_to(order):
                    others = turn(others, step)
                self.assertEqual(fractions(served_in(Line(ratio_rows(rows)), order).rows()), others)

    def test_whatever_turns_lead_there(self):
        source = drawn(38)
        for rows in many_rows(39, 6, (2, 3, 4)):
            line = Line(ratio_rows(rows))
            for _ in range(4):
                steps = [source.randrange(len(rows) - 1) for _ in range(source.randint(0, 12))]
                self.assertEqual(served_in(line, walk(len(rows), steps)).text(), text_after(line, steps))

    def test_orders_that_change_nothing(self):
        for rows in many_rows(40, 2):
            line = Line(ratio_rows(rows))
            self.assertEqual(served_in(line, list(range(len(rows)))), line)
        line = Line([[1, 2], [3, 0], [0, 3], [2, 1]])
        for order in orders(4):
            self.assertEqual(served_in(line, order), line)
        self.assertEqual(served_in(Line([[5, 0]]), [0]).text(), "5 0")

    def test_three_servers(self):
        line = Line([[3], [1], [2]])
        self.assertEqual(served_in(line, [2, 0, 1]).text(), "2\n3\n1")
        self.assertEqual(served_in(line, [1, 2, 0]).text(), "1\n2\n3")
        self.assertEqual(served_in(line, (0, 2, 1)).text(), "3\n2\n1")

    def test_unchanged(self):
        line, order = Line([[3, 0], [1, 1]]), [1, 0]
        answer = served_in(line, order)
        self.assertEqual(order, [1, 0])
        order.reverse()
        order.clear()
        self.assertEqual(answer, turned(line, 0))
        self.assertEqual(line.text(), "3 0\n1 1")


class StepsTo(unittest.TestCase):
    def test_all_orders(self):
        for servers in range(1, 5):
            least = fewest(servers)
            self.assertEqual(len(least), len(orders(servers)))
            for order in orders(servers):
                steps = steps_to(order)
                self.assertIs(type(steps), list)
                self.assertEqual([type(step) for step in steps], [int] * len(steps))
                self.assertEqual(walk(servers, steps), order)
                self.assertEqual(len(steps), least[tuple(order)])

    def test_told(self):
        self.assertEqual(steps_to([0]), [])
        self.assertEqual(steps_to([0, 1, 2, 3]), [])
        self.assertEqual(steps_to([0, 2, 1]), [1])
        self.assertEqual(steps_to([1, 2, 0]), [0, 1])
        self.assertEqual(steps_to([2, 0, 1]), [1, 0])
        self.assertEqual(len(steps_to([3, 2, 1, 0])), 6)

    def test_names_tuples_and_unchanged(self):
        for order in orders(4):
            steps = steps_to(order)
            self.assertEqual(steps_to(order=tuple(order)), steps)
            steps.append(None)
            self.assertEqual(walk(4, steps_to(order)), order)
        order = [2, 1, 0]
        steps_to(order).clear()
        self.assertEqual(order, [2, 1, 0])
        self.assertEqual(len(steps_to(order)), 3)


def no_orders():
    """Values that are no order of any line."""
    return odd_values_but_orders() + [
        [1], (1,), [0, 0], [1, 1], [1, 2], [0, 2], [-1, 0], [0, -1], [0, 1, 1], [0, 1, 3], [1, 2, 3], [0, 0, 1, 2],
        [1, 2, 3, 4], [0, 1, 2, 4], [0, 1, 2, 2], [0, 1, 2, 3, 4], (4, 3, 2, 1, 0), list(range(6)), [0, 1, 2, 3, 0],
        [True], [False], [False, True], [0, True], [False, 1], [Ratio(0)], [0, Ratio(1)], [Ratio(0), 1, 2],
        [0, 1, Ratio(2)], ["0"], ["0", "1"], "01", "0", [None, 0], [0, None], [[0], [1]], [(0,), (1,)], [[0, 1]],
        ([0, 1],), [0, [1]], {"0": 0, "1": 1}, [{}, {}], [0, LONG], [-LONG, 1], [0, 1.0],
    ]


def odd_values_but_orders():
    return [value for value in odd_values() if not isinstance(value, (list, tuple)) or list(value) != [0]]


class WrongOrders(unittest.TestCase):
    def test_no_orders(self):
        for value in no_orders():
            check_raises(self, BadOrder, value, lambda: steps_to(value))
            check_raises(self, BadOrder, value, lambda: steps_to(order=value))
            for servers in range(1, 5):
                line = Line([[1, 2]] * servers)
                check_raises(self, BadOrder, value, lambda: served_in(line, value))
                check_raises(self, BadOrder, value, lambda: served_in(line=line, order=value))

    def test_orders_of_other_lines(self):
        for servers, others in itertools.product(range(1, 5), repeat=2):
            line = Line([[1, 2]] * servers)
            for order in orders(others):
                if servers == others:
                    self.assertEqual(served_in(line, order), line)
                else:
                    check_raises(self, BadOrder, order, lambda: served_in(line, order))
                    value = tuple(order)
                    check_raises(self, BadOrder, value, lambda: served_in(line, value))


class ByTotals(unittest.TestCase):
    def test_all_orders(self):
        for rows in many_rows(41, 2):
            line = Line(ratio_rows(rows))
            held = line.totals()
            for order in orders(len(rows)):
                totals = [held[server] for server in order]
                answer = by_totals(line, totals)
                self.assertIs(type(answer), Line)
                self.assertEqual(answer.totals(), totals)
                self.assertEqual(answer, served_in(line, order))
                self.assertEqual(by_totals(line=line, totals=tuple(totals)), answer)
            self.assertEqual(fractions(line.rows()), rows)

    def test_integers_for_ratios(self):
        line = Line([[3, 0], [HALF, HALF], [1, 1]])
        expected = served_in(line, [1, 2, 0])
        for totals in ([1, 2, 3], (1, 2, 3), [Ratio(1), 2, Ratio(6, 2)], [Ratio(1), Ratio(2), Ratio(3)]):
            self.assertEqual(by_totals(line, totals), expected)
        line = Line([[1, HALF], [2, 0]])
        self.assertEqual(by_totals(line, [2, Ratio(3, 2)]), turned(line, 0))
        self.assertEqual(by_totals(line, [Ratio(3, 2), 2]), line)

    def test_equal_totals(self):
        line = Line([[1, 2], [3, 0], [4, 1], [0, 3]])
        for order in orders(4):
            totals = [line.totals()[server] for server in order]
            self.assertEqual(by_totals(line, totals), served_in(line, order))
        self.assertEqual(by_totals(line, [3, 3, 5, 3]), line)
        self.assertEqual(by_totals(Line([[0], [0]]), [0, Ratio(0)]).text(), "0\n0")

    def test_one_server(self):
        self.assertEqual(by_totals(Line([[1, HALF]]), [Ratio(3, 2)]).text(), "1 1/2")

    def test_no_lists(self):
        for servers in range(1, 5):
            line = Line([[1, 1]] * servers)
            for value in odd_values():
                check_raises(self, BadTotals, value, lambda: by_totals(line, value))
                check_raises(self, BadTotals, value, lambda: by_totals(line=line, totals=value))

    def test_no_numbers_within(self):
        line = Line([[0, 1], [0, 0], [1, 2]])
        self.assertEqual(by_totals(line, [0, 1, 3]).totals(), [0, 1, 3])
        for item in values_but(int, Ratio) + [0.0, 1.0]:
            for value in ([item, 1, 3], [0, item, 3], (0, 1, item), [item] * 3):
                check_raises(self, BadTotals, value, lambda: by_totals(line, value))

    def test_other_totals(self):
        line = Line([[1, 1], [3, 0], [0, 3]])
        for value in (
            [2, 3], [2, 3, 3, 3], [2, 3, 3, 2], [2, 2, 3], [3, 3, 3], [2, 3, 4], [3, 2, -3], [2, 3, Ratio(7, 2)],
            [0, 3, 3], [2, 3, LONG], (2, 2, 2), [], [[2, 3, 3]], [2, 3, Ratio(3 * LONG + 1, LONG)], "233",
            {"2": 2, "3": 3, "4": 3}, [4, 2, 2], [-2, -3, -3],
        ):
            check_raises(self, BadTotals, value, lambda: by_totals(line, value))
        for value in itertools.product((2, 3), repeat=3):
            if sorted(value) == [2, 3, 3]:
                self.assertEqual(fractions([by_totals(line, value).totals()]), [list(value)])
            else:
                check_raises(self, BadTotals, value, lambda: by_totals(line, value))

    def test_unchanged(self):
        line, totals = Line([[1, 1], [3, 0]]), [3, 2]
        answer = by_totals(line, totals)
        self.assertEqual([type(number) for number in totals], [int, int])
        self.assertEqual(totals, [3, 2])
        totals.clear()
        self.assertEqual(answer, turned(line, 0))
        self.assertEqual(line.text(), "1 1\n3 0")


class Risen(unittest.TestCase):
    def check(self, rows):
        line = Line(ratio_rows(rows))
        answer = risen(line)
        self.assertIs(type(answer), Line)
        totals = sorted([sum(row) for row in rows])
        self.assertEqual(fractions([answer.totals()]), [totals])
        self.assertEqual(answer, by_totals(line, answer.totals()))
        self.assertEqual(reaches_by_ways(fractions(answer.rows())), reaches_by_ways(rows))
        self.assertEqual(risen(line=line), answer)
        self.assertEqual(risen(answer), answer)
        self.assertIs(is_risen(answer), True)
        self.assertIs(is_risen(line), [sum(row) for row in rows] == totals)
        self.assertIs(is_risen(line=line), line == answer)
        self.assertEqual(fractions(line.rows()), rows)

    def test_drawn_lines(self):
        for rows in many_rows(42, 6):
            self.check(rows)

    def test_all_orders_of_totals(self):
        for totals in itertools.product((0, 1, 2, 3), repeat=4):
            self.check(fractions([[number, 0] for number in totals]))

    def test_the_same_line_of_all_orders(self):
        for rows in many_rows(43, 2):
            line = Line(ratio_rows(rows))
            for order in orders(len(rows)):
                self.assertEqual(risen(served_in(line, order)), risen(line))

    def test_told(self):
        self.assertEqual(risen(Line([[3], [1], [2]])).text(), "1\n2\n3")
        self.assertEqual(risen(Line([[1, 1], [1, 0]])).text(), "0 1\n2 0")
        self.assertEqual(risen(Line([[4, 1]])).text(), "4 1")
        for rows, expected in (
            ([[1, 0], [0, 1]], True), ([[1, 1], [0, 1]], False), ([[0, 1], [1, 1]], True), ([[7, 0]], True),
            ([[1], [2], [2], [HALF]], False), ([[1], [Ratio(3, 2)], [2], [2]], True), ([[2], [1], [3]], False),
            ([[LONG], [LONG + 1]], True), ([[LONG], [LONG - 1]], False), ([[1], [3], [2]], False),
        ):
            self.assertIs(is_risen(Line(rows)), expected)

    def test_by_turns_alone(self):
        # A move by another amount leads to a line that no turns lead to, and that may be risen, too.
        line = Line([[0, 1], [4, 3]])
        half = Line(ratio_rows(move(fractions(line.rows()), 0, -1)))
        self.assertEqual(fraction(half.totals()[0]), 2)
        self.assertIs(is_risen(half), True)
        self.assertEqual(risen(half), half)
        self.assertEqual(risen(line), line)
