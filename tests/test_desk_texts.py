"""Point [113], and [9] to [11] for it: the texts of desks."""

import itertools
import math
import re
import unittest

from tandems.desk import Desk, read_desk
from tandems.errors import BadText, NothingToRedo, NothingToUndo
from tandems.lines import Line
from tandems.ratios import Ratio
from tests.oracles import drawn, drawn_arrivals, drawn_rows, ratio_rows, ratios, serve
from tests.support import check_raises_plain, fraction, fractions

LONG = 10 ** 40 - 1
TEXTS = (
    "1 1\n1 0\narrivals 0 0", "5\narrivals -3", "0\n0\n0\n0\narrivals 1/2", "1/2 0 12\narrivals -1/3 4 -10",
    "1 2 3 4 5 6\n0 0 0 0 0 0\narrivals 6 5 4 3 2 1",
)
SIGNS = " \n/-+.,0123456789arivlsABe_"


def is_number_text(word, least):
    """Whether a string is the text of a number, from 0 on or any, by the words of [12]."""
    if not re.fullmatch(r"(0|-?[1-9][0-9]*)(/[1-9][0-9]*)?", word):
        return False
    top, _, bottom = word.partition("/")
    if bottom == "1" or bottom and math.gcd(int(top), int(bottom)) != 1:
        return False
    return least is None or int(top) >= least


def is_desk_text(text):
    """Whether a string is the text of some desk, by the words of [113]."""
    *rows, last = text.split("\n")
    words = last.split(" ")
    table = [row.split(" ") for row in rows]
    if not 1 <= len(rows) <= 4 or words[0] != "arrivals" or not 2 <= len(words) <= 7:
        return False
    if [len(row) for row in table] != [len(words) - 1] * len(rows):
        return False
    times = all([is_number_text(word, 0) for row in table for word in row])
    return times and all([is_number_text(word, None) for word in words[1:]])


class Texts(unittest.TestCase):
    def test_drawn_desks(self):
        source = drawn(171)
        for servers, jobs in itertools.product(range(1, 5), range(1, 7)):
            rows, arrivals = drawn_rows(source, servers, jobs), drawn_arrivals(source, jobs)
            desk = Desk(Line(ratio_rows(rows)))
            desk.arrive(ratios(arrivals))
            expected = "\n".join([" ".join([str(time) for time in row]) for row in rows])
            expected += "\narrivals " + " ".join([str(arrival) for arrival in arrivals])
            self.assertEqual((type(desk.text()), desk.text()), (str, expected))
            self.assertTrue(is_desk_text(expected))
            found = read_desk(expected)
            self.assertIs(type(found), Desk)
            self.assertEqual((found.text(), len(found), found.is_steady()), (expected, 0, True))
            self.assertEqual(fractions(found.line().rows()), rows)
            self.assertEqual([fraction(number) for number in found.arrivals()], arrivals)
            self.assertEqual([fraction(number) for number in found.ends()], serve(rows, arrivals))
            self.assertEqual(read_desk(text=expected).text(), expected)

    def test_told_texts(self):
        for text in TEXTS:
            self.assertTrue(is_desk_text(text))
            self.assertEqual(read_desk(text).text(), text)
        desk = Desk(Line([[Ratio(2, 4), 0]]))
        self.assertEqual(desk.text(), "1/2 0\narrivals 0 0")
        desk.follow([3], Ratio(-1, 7))
        self.assertEqual(desk.text(), "1/2 0 3\narrivals 0 0 -1/7")
        desk.strike()
        self.assertEqual(desk.text(), "0 3\narrivals 0 -1/7")

    def test_what_is_read_begins_anew(self):
        desk = read_desk("1 1\n1 0\narrivals 2 -1/2")
        check_raises_plain(self, NothingToUndo, desk.undo)
        check_raises_plain(self, NothingToRedo, desk.redo)
        desk.set_time((0, 0), 3)
        self.assertEqual((desk.is_steady(), len(desk)), (False, 1))
        desk.undo()
        self.assertEqual((desk.is_steady(), desk.text()), (True, "1 1\n1 0\narrivals 2 -1/2"))

    def test_two_desks_of_a_text(self):
        one, other = read_desk(TEXTS[0]), read_desk(TEXTS[0])
        one.move(0, 1)
        one.arrive([1, 2])
        self.assertEqual(other.text(), TEXTS[0])

    def test_long_numbers(self):
        text = f"{LONG} 1/{LONG}\narrivals -{LONG} {LONG - 1}/{LONG}"
        self.assertEqual(read_desk(text).text(), text)
        desk = read_desk(text)
        desk.arrive([Ratio(10 ** 3999, 7 ** 4000), -(10 ** 3999)])
        self.assertEqual(read_desk(desk.text()).text(), desk.text())


class WrongTexts(unittest.TestCase):
    def check(self, text):
        if is_desk_text(text):
            self.assertEqual(read_desk(text).text(), text)
            return 1
        check_raises_plain(self, BadText, lambda: read_desk(text))
        check_raises_plain(self, BadText, lambda: read_desk(text=text))
        return 0

    def test_one_sign_more_or_less(self):
        found = 0
        for text in TEXTS:
            for at in range(len(text) + 1):
                found += self.check(text[:at] + text[at + 1:])
                found += self.check(text[:at] + text[at:at + 1] + text[at:])
                found += self.check(text[:at] + text[at:at + 2][::-1] + text[at + 2:])
                for sign in SIGNS:
                    found += self.check(text[:at] + sign + text[at:])
                    found += self.check(text[:at] + sign + text[at + 1:])
        self.assertGreater(found, 100)

    def test_blanks_and_feeds_at_the_ends(self):
        for text in TEXTS:
            for sign in (" ", "\n", "  ", "\n\n", " \n", "\n ", "\t", "\r", "\r\n", "\x00", "\u00a0", "\u2028"):
                self.assertEqual(self.check(sign + text) + self.check(text + sign), 0)
                self.assertEqual(self.check(text.replace("\n", sign)), sign == "\n")
                self.assertEqual(self.check(text.replace("arrivals ", "arrivals" + sign)), sign == " ")

    def test_parts_of_texts(self):
        for text in TEXTS:
            rows = text.split("\n")
            for value in (
                rows[:-1], rows[-1:], rows[::-1], rows + rows[-1:], rows[:-1] + ["arrivals"], rows[:-1] + ["arrivals "],
                rows[:-1] + [rows[-1].upper()], rows[:-1] + [rows[-1][1:]], rows[:-1] + [""], [""] + rows[1:],
                [""] + rows,
                rows[:-1] + rows[:1], rows[:-1] + ["arrivals " + rows[-1]],
                rows[:-1] + [rows[-1].replace("arrivals", "ends")],
                rows[:-1] + [rows[-1] + " 0"], rows[:-1] + [rows[-1].rpartition(" ")[0]], rows[:1] * 5 + rows[-1:],
                rows[:-1] + [rows[-1].replace("arrivals ", "arrivals: ")], rows[-1:] + rows[:-1],
                rows[:-1] + ["arrival 0"],
                rows[:-1] + [rows[-1].replace("arrivals ", "arrivals - ")],
                [row + " 0" for row in rows[:-1]] + rows[-1:],
                [rows[0] + " 0"] + rows[1:-1] + [rows[-1] + " 0"] if len(rows) > 2 else [],
            ):
                self.assertEqual(self.check("\n".join(value)), 0, value)

    def test_numerals(self):
        for word, time, arrival in (
            ("0", 1, 1), ("-0", 0, 0), ("+1", 0, 0), ("-1", 0, 1), ("01", 0, 0), ("2/4", 0, 0), ("1/1", 0, 0),
            ("0/1", 0, 0),
            ("0/2", 0, 0), ("1/0", 0, 0), ("1/-2", 0, 0), ("-1/2", 0, 1), ("1/2", 1, 1), ("1/02", 0, 0), ("1.0", 0, 0),
            ("1e1", 0, 0), ("1_0", 0, 0), ("10", 1, 1), ("1/2/3", 0, 0), ("/2", 0, 0), ("2/", 0, 0), ("", 0, 0),
            ("-", 0, 0),
            ("--1", 0, 0), ("\u0661", 0, 0), ("\u00bd", 0, 0), ("None", 0, 0), ("True", 0, 0), ("6/3", 0, 0),
            ("-6/4", 0, 0),
        ):
            self.assertEqual(self.check(f"{word} 1\narrivals 0 0"), time, word)
            self.assertEqual(self.check(f"1 1\n0 {word}\narrivals 0 0"), time, word)
            self.assertEqual(self.check(f"1 1\narrivals {word} 0"), arrival, word)
            self.assertEqual(self.check(f"1 1\narrivals 0 {word}"), arrival, word)

    def test_numbers_of_servers_and_jobs(self):
        for servers, jobs, many in itertools.product(range(6), range(8), range(8)):
            text = "\n".join([" ".join(["1"] * jobs)] * servers + ["arrivals " + " ".join(["2"] * many)])
            expected = 1 <= servers <= 4 and 1 <= jobs <= 6 and many == jobs
            self.assertEqual(self.check(text), expected)

    def test_short_strings(self):
        for text in (
            "", " ", "\n", "\n\n", "0", "arrivals", "arrivals 0", "\narrivals 0", "0\narrivals", "0 arrivals 0",
        ):
            self.assertEqual(self.check(text), 0)
        self.assertEqual(self.check("0\narrivals 0"), 1)

    def test_long_strings(self):
        for text in (
            "0" * 2000, "\n" * 2000, " " * 2000, "arrivals " * 222, "1 " * 1000, "1\n" * 1000, "9" * 40 + "/" * 1900,
        ):
            self.assertEqual(self.check(text), 0)
