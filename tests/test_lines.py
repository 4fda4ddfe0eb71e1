"""Points [3], [13], [14], and [9], [11] for the lines."""

import itertools
import unittest

from tandems.errors import BadJob, BadLine, BadServer, BadText
from tandems.lines import Line
from tandems.ratios import Ratio
from tests.support import (
    check_raises, check_raises_plain, check_texts, fraction, fractions, odd_values, values_but,
)

LONG = 10 ** 40 - 1


def sizes():
    return itertools.product(range(1, 5), range(1, 7))


def table(servers, jobs):
    """Times that are all different, with a nought and parts among them."""
    return [[Ratio(7 * server + job, 1 + (server + job) % 3) for job in range(jobs)] for server in range(servers)]


def texts(rows):
    return [[number.text() for number in row] for row in rows]


class Creation(unittest.TestCase):
    def test_all_sizes(self):
        for servers, jobs in sizes():
            rows = table(servers, jobs)
            line = Line(rows)
            self.assertEqual((line.servers(), line.jobs()), (servers, jobs))
            self.assertIs(type(line.servers()), int)
            self.assertIs(type(line.jobs()), int)
            self.assertEqual(texts(line.rows()), texts(rows))
            self.assertEqual(fractions([line.totals()])[0], [sum(row) for row in fractions(rows)])
            self.assertEqual(fractions([line.sums()])[0], [sum(column) for column in zip(*fractions(rows))])
            for server, job in itertools.product(range(servers), range(jobs)):
                self.assertIs(type(line.time(server, job)), Ratio)
                self.assertEqual(line.time(server, job).text(), rows[server][job].text())

    def test_kinds(self):
        line = Line([[1, 0, Ratio(4, 2)], (0, Ratio(1, 3), 5)])
        self.assertIs(type(line.rows()), list)
        for row, expected in zip(line.rows(), (["1", "0", "2"], ["0", "1/3", "5"])):
            check_texts(self, row, expected)
        check_texts(self, line.totals(), ["3", "16/3"])
        check_texts(self, line.sums(), ["1", "1/3", "7"])
        self.assertIs(type(line.time(0, 0)), Ratio)

    def test_tuples_and_names(self):
        expected = Line([[1, 2], [3, 4]])
        for rows in (((1, 2), (3, 4)), [(1, 2), [3, 4]], ([1, 2], [3, 4])):
            self.assertEqual(Line(rows), expected)
            self.assertEqual(Line(rows=rows), expected)
        self.assertEqual(expected.time(server=1, job=0).text(), "3")
        self.assertEqual(expected.time(job=1, server=0).text(), "2")
        self.assertEqual(expected.part(last=1, first=1).text(), "2\n4")
        self.assertEqual(Line.read(text="1 2\n3 4"), expected)

    def test_noughts_and_long_numbers(self):
        check_texts(self, Line([[0] * 6] * 4).totals(), ["0"] * 4)
        line = Line([[LONG, Ratio(1, LONG)], [10 ** 45, Ratio(LONG, 7)]])
        self.assertEqual(line.time(0, 1).bottom, LONG)
        self.assertEqual(fraction(line.totals()[1]), 10 ** 45 + fraction(Ratio(LONG, 7)))


class WrongRows(unittest.TestCase):
    def check(self, rows):
        check_raises(self, BadLine, rows, lambda: Line(rows))
        check_raises(self, BadLine, rows, lambda: Line(rows=rows))

    def test_no_list_of_lists(self):
        for value in odd_values():
            self.check(value)

    def test_no_row(self):
        for value in values_but(list, tuple) + [[], (), [[0]], ((0,),), [None], ["0"], [0, -1], [Ratio(-1, 9)]]:
            for rows in ([value], (value,), [[0], value], [value, [0]], [[0, 0], [0, 0], [0, 0], value]):
                self.check(rows)

    def test_no_time(self):
        bad = [value for value in odd_values() if value.__class__ not in (int, Ratio)]
        for value in bad + [-1, -LONG, Ratio(-1), Ratio(-1, LONG)]:
            for rows in ([[value]], ((value,),), [[0, value]], [[0], [value]], [[0, 0], [0, value]], [[value, 0]]):
                self.check(rows)

    def test_sizes(self):
        for servers, jobs in itertools.product(range(9), range(9)):
            rows = [[1] * jobs for _ in range(servers)]
            if 1 <= servers <= 4 and 1 <= jobs <= 6:
                self.assertEqual(Line(rows).jobs(), jobs)
            else:
                self.check(rows)
                self.check(tuple([tuple(row) for row in rows]))

    def test_rows_of_unlike_length(self):
        for lengths in itertools.product(range(4), repeat=3):
            if len(set(lengths)) > 1:
                self.check([[1] * length for length in lengths])
        self.check([[1] * 6, [1] * 5])
        self.check([[1] * 6, [1] * 7])

    def test_dicts_and_strings(self):
        for rows in ({}, {"0": [0]}, {"rows": [[0]]}, "0", ["0"], [["0"]], [{"0": 0}], "12", ["12", "34"]):
            self.check(rows)


class Times(unittest.TestCase):
    def test_no_server(self):
        line = Line(table(2, 3))
        for value in values_but(int) + [-1, 2, 3, -2, LONG, -LONG, Ratio(0), Ratio(1)]:
            check_raises(self, BadServer, value, lambda: line.time(value, 0))
            check_raises(self, BadServer, value, lambda: line.time(server=value, job=0))

    def test_no_job(self):
        line = Line(table(2, 3))
        for value in values_but(int) + [-1, 3, 4, -3, LONG, -LONG, Ratio(0), Ratio(2)]:
            check_raises(self, BadJob, value, lambda: line.time(0, value))
            check_raises(self, BadJob, value, lambda: line.time(server=1, job=value))

    def test_server_is_checked_first(self):
        line = Line(table(2, 3))
        for value in odd_values():
            if value.__class__ is int:
                value = -1
            check_raises(self, BadServer, value, lambda: line.time(value, value))
            check_raises(self, BadServer, value, lambda: line.time(value, 3))
        check_raises(self, BadServer, 2, lambda: line.time(2, 3))

    def test_edges_of_all_sizes(self):
        for servers, jobs in sizes():
            line = Line(table(servers, jobs))
            check_raises(self, BadServer, servers, lambda: line.time(servers, 0))
            check_raises(self, BadJob, jobs, lambda: line.time(servers - 1, jobs))


class Equality(unittest.TestCase):
    def test_times_tell(self):
        for servers, jobs in sizes():
            rows = table(servers, jobs)
            self.assertTrue(Line(rows) == Line([list(row) for row in rows]))
            self.assertFalse(Line(rows) != Line([list(row) for row in rows]))
            for server, job in itertools.product(range(servers), range(jobs)):
                others = [list(row) for row in rows]
                others[server][job] = others[server][job] + Ratio(1, 100)
                self.assertFalse(Line(rows) == Line(others))
                self.assertTrue(Line(rows) != Line(others))

    def test_integers_and_ratios(self):
        self.assertEqual(Line([[1, Ratio(2, 4)]]), Line(((Ratio(3, 3), Ratio(1, 2)),)))

    def test_other_sizes(self):
        lines = [Line([[0] * jobs] * servers) for servers, jobs in sizes()]
        for one, other in itertools.product(range(len(lines)), repeat=2):
            self.assertIs(lines[one] == lines[other], one == other)

    def test_other_classes(self):
        line = Line([[1]])
        for value in odd_values() + [[[1]], ((1,),), [[Ratio(1)]], Ratio(1), 1, "1", line.rows(), BadText()]:
            self.assertIs(line == value, False)
            self.assertIs(value == line, False)
            self.assertIs(line != value, True)


class Unchanged(unittest.TestCase):
    def test_what_was_passed(self):
        inner, half = [1, 2], Ratio(1, 2)
        rows = [inner, [half, 0]]
        line = Line(rows)
        self.assertEqual((rows, inner), ([[1, 2], [half, 0]], [1, 2]))
        self.assertIs(type(inner[0]), int)
        inner[0] = 9
        inner.append(3)
        rows[1][1] = -5
        rows.append(None)
        self.assertEqual(line.text(), "1 2\n1/2 0")

    def test_what_was_returned(self):
        line = Line([[1, 2], [3, 4]])
        for told in (line.rows, line.totals, line.sums):
            before = [repr(fractions(line.rows())), line.text()]
            first = told()
            first[0] = Ratio(99)
            first.append(0)
            del first[1]
            self.assertEqual([repr(fractions(line.rows())), line.text()], before)
            self.assertIsNot(told(), told())
        line.rows()[1][0] = Ratio(99)
        line.rows()[0].append(Ratio(1))
        self.assertEqual(line.text(), "1 2\n3 4")
        self.assertIsNot(line.rows()[0], line.rows()[0])
        check_texts(self, line.totals(), ["3", "7"])
        check_texts(self, line.sums(), ["4", "6"])

    def test_parts_and_backwards_share_nothing(self):
        line = Line([[1, 2], [3, 4]])
        for other in (line.part(0, 1), line.backwards()):
            other.rows()[0][0] = Ratio(7)
            self.assertEqual(line.text(), "1 2\n3 4")
        self.assertEqual(line.part(0, 1), line)


class Texts(unittest.TestCase):
    def test_some(self):
        for rows, text in (
            ([[0]], "0"), ([[1, 0, 2]], "1 0 2"), ([[1], [Ratio(1, 2)]], "1\n1/2"),
            ([[1, 0, 2], [2, 1, Ratio(1, 2)]], "1 0 2\n2 1 1/2"), ([[Ratio(6, 4), Ratio(8, 2)]], "3/2 4"),
        ):
            self.assertEqual(Line(rows).text(), text)
            self.assertEqual(Line.read(text), Line(rows))
            self.assertIs(type(Line.read(text)), Line)

    def test_there_and_back(self):
        for servers, jobs in sizes():
            line = Line(table(servers, jobs))
            self.assertEqual(Line.read(line.text()), line)
            self.assertEqual(texts(Line.read(line.text()).rows()), texts(line.rows()))

    def test_2000_characters(self):
        line = Line([[Ratio(2 ** 132 + 3 * job, 3 ** 83) for job in range(6)]] * 4)
        self.assertEqual(len(line.text()), 24 * 81 + 23)
        self.assertEqual(Line.read(line.text()), line)

    def test_4000_digits(self):
        line = Line([[Ratio(10 ** 3999 + 1, 10 ** 3999), 10 ** 3999]])
        self.assertEqual(Line.read(line.text()), line)

    def test_one_sign_more_or_less(self):
        text = "1 0 2\n2 1 1/2"
        for at in range(len(text) + 1):
            for sign in ("", " ", "\n", "-", "+", "/", "0", "7", "x", ".", "\t", "\r"):
                for changed in (text[:at] + sign + text[at:], text[:at] + sign + text[at + 1:]):
                    self.check(changed)

    def check(self, text):
        """Read any string: it is the text of what comes of it, or BadText."""
        try:
            line = Line.read(text)
        except BadText as error:
            self.assertEqual(vars(error), {})
            self.assertFalse(self.is_text(text))
        else:
            self.assertEqual(line.text(), text)
            self.assertTrue(self.is_text(text))

    def is_text(self, text):
        """Whether a string is the text of a line, told by the document's words alone."""
        rows = [row.split(" ") for row in text.split("\n")]
        if len({len(row) for row in rows}) > 1 or len(rows) > 4 or len(rows[0]) > 6:
            return False
        return all(self.is_time(word) for row in rows for word in row)

    def is_time(self, word):
        parts = word.split("/")
        if len(parts) > 2 or not all(part and set(part) <= set("0123456789") for part in parts):
            return False
        numbers = [int(part) for part in parts]
        if "/".join([str(number) for number in numbers]) != word:
            return False
        return len(numbers) == 1 or numbers[1] > 1 and Ratio(*numbers).bottom == numbers[1]

    def test_bad_texts(self):
        for text in (
            "", " ", "\n", "  ", "\n\n", "1 ", " 1", "1\n", "\n1", "1  2", "1\n\n2", "1 2\n3", "1\n2 3", "1 2 \n3 4",
            "1 2\n 3 4", "1\t2", "1\r\n2", "1,2", "1 2;3 4", "-1", "1 -1", "-0", "0 -0", "+1", "01", "1 02", "2/4", "1/0",
            "1/1", "1 / 2", "1/2/3", "x", "1 x", "1.5", "[[1]]", "1 1 1 1 1 1 1", "1\n1\n1\n1\n1", "-1/2", "1\n-1/2",
            " " * 2000, "\n" * 2000, "1 " * 1000, "1\n" * 1000, "1" + " 1" * 999, "1" + "\n1" * 999,
        ):
            check_raises_plain(self, BadText, lambda: Line.read(text))

    def test_greatest_sizes(self):
        self.assertEqual(Line.read("\n".join(["1 1 1 1 1 1"] * 4)).jobs(), 6)
        check_raises_plain(self, BadText, lambda: Line.read("\n".join(["1 1 1 1 1 1"] * 5)))
        check_raises_plain(self, BadText, lambda: Line.read("\n".join(["1 1 1 1 1 1 1"] * 4)))


class Parts(unittest.TestCase):
    def test_all_parts(self):
        for servers, jobs in sizes():
            rows = table(servers, jobs)
            line = Line(rows)
            for first in range(jobs):
                for last in range(first, jobs):
                    part = line.part(first, last)
                    self.assertIs(type(part), Line)
                    expected = [row[first:last + 1] for row in rows]
                    self.assertEqual(texts(part.rows()), texts(expected))
            self.assertEqual(texts(line.rows()), texts(rows))
            self.assertEqual(line.part(0, jobs - 1), line)

    def test_last_ahead_of_first(self):
        for servers, jobs in sizes():
            line = Line(table(servers, jobs))
            for first in range(jobs):
                for last in range(first):
                    check_raises(self, BadJob, last, lambda: line.part(first, last))

    def test_no_job(self):
        line = Line(table(2, 3))
        for value in values_but(int) + [-1, -2, -3, 3, 4, LONG, -LONG, Ratio(0), Ratio(1), Ratio(2)]:
            check_raises(self, BadJob, value, lambda: line.part(value, 2))
            check_raises(self, BadJob, value, lambda: line.part(first=0, last=value))
            check_raises(self, BadJob, value, lambda: line.part(2, value))

    def test_first_is_checked_first(self):
        line = Line(table(2, 3))
        for value in values_but(int) + [-1, 3]:
            for other in values_but(int) + [-5, 5]:
                check_raises(self, BadJob, value, lambda: line.part(value, other))
        check_raises(self, BadJob, 3, lambda: line.part(3, -1))
        check_raises(self, BadJob, -1, lambda: line.part(-1, 3))


class Backwards(unittest.TestCase):
    def test_all_sizes(self):
        for servers, jobs in sizes():
            rows = table(servers, jobs)
            line = Line(rows)
            back = line.backwards()
            self.assertIs(type(back), Line)
            for server, job in itertools.product(range(servers), range(jobs)):
                expected = rows[servers - 1 - server][jobs - 1 - job]
                self.assertEqual(back.time(server, job).text(), expected.text())
            self.assertEqual(back.backwards(), line)
            self.assertEqual(texts(line.rows()), texts(rows))

    def test_both_are_turned_round(self):
        self.assertEqual(Line([[1, 2, 3], [4, 5, 6]]).backwards().text(), "6 5 4\n3 2 1")
