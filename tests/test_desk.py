"""Points [110] to [112], and [9] to [11] for them: desks, their deeds, and what they tell."""

import itertools
import unittest

from tandems.desk import Desk, read_desk
from tandems.errors import (
    BadAmount, BadArrivals, BadJob, BadNumber, BadPlace, BadServer, BadTimes, NothingToRedo, OnlyJob, TooMany,
)
from tandems.joins import followed, without_first
from tandems.kin import are_kin
from tandems.lates import rooms
from tandems.lines import Line, ends
from tandems.moves import moved_down, moved_up, room_down, room_up
from tandems.ratios import Ratio, as_ratio
from tandems.shapes import triangle
from tandems.slacks import needed, with_time
from tandems.turns import turned
from tests.oracles import (
    drawn, drawn_arrivals, drawn_rows, drawn_times, ratio_rows, ratios, serve, triangle_by_push,
)
from tests.support import (
    check_raises, check_raises_plain, check_texts, fraction, fractions, odd_values, row_of_deeds, seen, values_but,
)

LONG = 10 ** 40 - 1
HALF = Ratio(1, 2)


class Model:
    """A desk by the words of the document: what it had after each deed, and how many are done."""

    def __init__(self, line):
        self.states = [(line, [as_ratio(0)] * line.jobs())]
        self.at = 0

    def line(self):
        return self.states[self.at][0]

    def arrivals(self):
        return self.states[self.at][1]

    def deed(self, line, arrivals):
        self.states = self.states[:self.at + 1] + [(line, arrivals)]
        self.at += 1

    def check(self, case, desk):
        line, arrivals = self.line(), self.arrivals()
        case.assertEqual((type(desk.line()), desk.line()), (Line, line))
        for told, expected in ((desk.arrivals(), arrivals), (desk.ends(), ends(line, arrivals)),
                               (desk.rooms(), rooms(line, arrivals))):
            check_texts(case, told, [number.text() for number in expected])
        case.assertEqual(desk.triangle(), triangle(line))
        start = self.states[0][0]
        case.assertIs(desk.is_steady(), line.jobs() == start.jobs() and are_kin(line, start))
        case.assertEqual((type(len(desk)), len(desk)), (int, self.at))
        for job in range(line.jobs()):
            case.assertEqual(desk.needed(job), needed(line, arrivals, job))
        text = line.text() + "\narrivals " + " ".join([arrival.text() for arrival in arrivals])
        case.assertEqual(desk.text(), text)


def drawn_deed(case, source, desk, model):
    """Do one drawn deed to a desk and to its model, or an undo or a redo."""
    line, arrivals = model.line(), model.arrivals()
    server = source.randrange(line.servers())
    kind = source.choice(["time", "arrive", "move", "move", "turn", "follow", "strike", "undo", "redo"])
    if kind == "time":
        place, time = (server, source.randrange(line.jobs())), ratios(drawn_times(source, 1))[0]
        case.assertIsNone(desk.set_time(place, time))
        model.deed(with_time(line, place, time), arrivals)
    elif kind == "arrive":
        given = ratios(drawn_arrivals(source, line.jobs()))
        case.assertIsNone(desk.arrive(given))
        model.deed(line, [as_ratio(number) for number in given])
    elif kind in ("move", "turn") and server < line.servers() - 1:
        drawn_move(case, source, desk, model, server, kind)
    elif kind == "follow" and line.jobs() < 6:
        times, arrival = ratios(drawn_times(source, line.servers())), ratios(drawn_arrivals(source, 1))[0]
        case.assertIsNone(desk.follow(times, arrival))
        model.deed(followed(line, times), arrivals + [as_ratio(arrival)])
    elif kind == "strike" and line.jobs() > 1:
        case.assertIsNone(desk.strike())
        model.deed(without_first(line), arrivals[1:])
    elif kind == "undo" and model.at > 0:
        case.assertIsNone(desk.undo())
        model.at -= 1
    elif kind == "redo" and model.at < len(model.states) - 1:
        case.assertIsNone(desk.redo())
        model.at += 1


def drawn_move(case, source, desk, model, server, kind):
    line, arrivals = model.line(), model.arrivals()
    if kind == "turn":
        case.assertIsNone(desk.turn(server))
        model.deed(turned(line, server), arrivals)
    else:
        part = Ratio(source.randint(0, 3), 3)
        if source.randrange(2):
            amount = room_down(line, server) * part
            case.assertIsNone(desk.move(server, amount))
            model.deed(moved_down(line, server, amount), arrivals)
        else:
            amount = room_up(line, server) * part
            case.assertIsNone(desk.move(server, -amount))
            model.deed(moved_up(line, server, amount), arrivals)


class Deeds(unittest.TestCase):
    def test_drawn_rows_of_deeds(self):
        source = drawn(161)
        for servers, jobs in itertools.product(range(1, 5), (1, 2, 4, 6)):
            line = Line(ratio_rows(drawn_rows(source, servers, jobs)))
            desk, model = Desk(line), Model(line)
            model.check(self, desk)
            for _ in range(25):
                drawn_deed(self, source, desk, model)
                model.check(self, desk)

    def test_by_the_words(self):
        source = drawn(162)
        for servers, jobs in ((1, 1), (2, 3), (4, 6)):
            rows, arrivals = drawn_rows(source, servers, jobs), drawn_arrivals(source, jobs)
            desk = Desk(line=Line(ratio_rows(rows)))
            self.assertEqual([number.text() for number in desk.arrivals()], ["0"] * jobs)
            self.assertEqual([fraction(number) for number in desk.ends()], serve(rows, [0] * jobs))
            self.assertEqual((len(desk), desk.is_steady()), (0, True))
            self.assertIsNone(desk.arrive(tuple(ratios(arrivals))))
            self.assertEqual([fraction(number) for number in desk.ends()], serve(rows, arrivals))
            self.assertEqual(fractions(desk.triangle()), triangle_by_push(rows))

    def test_names(self):
        desk = Desk(line=Line([[1, 1], [1, 0]]))
        told = [
            desk.set_time(place=(0, 1), time=2), desk.arrive(arrivals=[1, 2]), desk.move(server=0, amount=1),
            desk.turn(server=0), desk.follow(times=[1, HALF], arrival=-3), desk.strike(), desk.undo(), desk.redo(),
        ]
        self.assertEqual((told, len(desk)), ([None] * 8, 6))
        self.assertEqual(desk.needed(job=0), desk.needed(0))
        self.assertEqual(read_desk(text=desk.text()).text(), desk.text())
        self.assertEqual(desk.tried(act=len), 6)

    def test_deeds_that_change_nothing(self):
        desk = Desk(Line([[1, 1], [1, 1]]))
        desk.set_time((0, 0), 1)
        desk.arrive([0, 0])
        desk.move(0, 0)
        desk.move(0, Ratio(0))
        desk.turn(0)
        self.assertEqual((len(desk), desk.text(), desk.is_steady()), (5, "1 1\n1 1\narrivals 0 0", True))
        desk.undo()
        self.assertEqual(len(desk), 4)

    def test_moves(self):
        desk = Desk(Line([[1, 1], [1, 0]]))
        self.assertEqual(room_down(desk.line(), 0).text(), "1")
        desk.move(0, 1)
        self.assertEqual(desk.line().text(), "0 1\n2 0")
        desk.move(0, -1)
        self.assertEqual(desk.line().text(), "1 1\n1 0")
        desk.move(0, HALF)
        desk.move(0, Ratio(-1, 4))
        self.assertEqual((desk.line().text(), len(desk)), ("3/4 1\n5/4 0", 4))
        self.assertIs(desk.is_steady(), True)

    def test_steady(self):
        desk = Desk(Line([[1, 1], [1, 0]]))
        desk.turn(0)
        self.assertIs(desk.is_steady(), True)
        desk.follow([0, 3], 1)
        self.assertIs(desk.is_steady(), False)
        desk.strike()
        self.assertIs(desk.is_steady(), False)
        desk.undo()
        desk.undo()
        self.assertIs(desk.is_steady(), True)
        desk.set_time((0, 0), 7)
        self.assertIs(desk.is_steady(), False)
        desk.set_time((0, 0), 0)
        self.assertEqual((desk.line().text(), desk.is_steady()), ("0 1\n2 0", True))
        # Jobs came and went, and the line is again kin to the first one.
        desk.follow([1, 0], 0)
        desk.strike()
        desk.set_time((1, 0), 1)
        desk.set_time((0, 0), 1)
        desk.set_time((0, 1), 1)
        desk.set_time((1, 1), 0)
        self.assertEqual((desk.line().text(), desk.is_steady()), ("1 1\n1 0", True))

    def test_nothing_is_kept_or_given_away(self):
        rows, arrivals, times = [[1, 1], [1, 0]], [1, 2], [3, 4]
        desk = Desk(Line(rows))
        desk.arrive(arrivals)
        desk.follow(times, 5)
        expected = seen(desk)
        rows[0][0] = arrivals[0] = times[0] = None
        self.assertEqual(seen(desk), expected)
        for told in (desk.arrivals(), desk.ends(), desk.rooms(), desk.triangle(), desk.triangle()[0], desk.needed(1),
                     desk.line().rows(), desk.line().rows()[0]):
            told.append(None)
            told[0] = None
        self.assertEqual(seen(desk), expected)
        told = row_of_deeds(desk)
        self.assertEqual([told[0], told[-1]], [expected, expected])

    def test_long_rows_of_deeds(self):
        source = drawn(163)
        line = Line([[Ratio(LONG - 7 * job, LONG - 3 * server) for job in range(6)] for server in range(4)])
        desk, model = Desk(line), Model(line)
        for _ in range(120):
            drawn_deed(self, source, desk, model)
        model.check(self, desk)
        desk = Desk(Line([[1, 2, 3], [3, 2, 1], [2, 2, 2]]))
        for deed in range(3000):
            desk.turn(deed % 2)
        self.assertEqual((len(desk), desk.is_steady()), (3000, True))
        for deed in range(300):
            desk.tried(lambda inner: [inner.turn(0), inner.undo(), inner.undo()])
        for deed in range(3000):
            desk.undo()
        self.assertEqual((len(desk), desk.line().text()), (0, "1 2 3\n3 2 1\n2 2 2"))
        for deed in range(3000):
            desk.redo()
        self.assertEqual(len(desk), 3000)


class Refused(unittest.TestCase):
    def check(self, desk, kind, value, act):
        """Check that a deed is refused, and that nothing is changed, nor taken from undo and redo."""
        before = seen(desk)
        check_raises(self, kind, value, act)
        self.assertEqual(seen(desk), before)

    def desks(self):
        """Desks with deeds done and deeds taken back."""
        for servers, jobs in ((1, 1), (2, 2), (4, 6), (3, 1)):
            desk = Desk(Line([[1] * jobs] * servers))
            desk.arrive([HALF] * jobs)
            desk.set_time((servers - 1, 0), 3)
            desk.undo()
            yield desk, servers, jobs

    def check_still(self, desk):
        """Check that the deed that was taken back can still be done again."""
        self.assertEqual(len(desk), 1)
        desk.redo()
        self.assertEqual((len(desk), desk.line().rows()[-1][0].text()), (2, "3"))
        check_raises_plain(self, NothingToRedo, desk.redo)

    def test_set_time(self):
        for desk, servers, jobs in self.desks():
            wrong = odd_values() + [(servers, 0), (0, jobs), (-1, 0), [0, 0], (True, 0), (0, Ratio(0)), (0, 0, 0)]
            for value in wrong:
                for time in (1, -1, None):
                    self.check(desk, BadPlace, value, lambda: desk.set_time(value, time))
            for value in values_but(int, Ratio) + [-1, Ratio(-1, LONG)]:
                self.check(desk, BadNumber, value, lambda: desk.set_time(place=(0, 0), time=value))
            self.check_still(desk)

    def test_arrive(self):
        for desk, _, jobs in self.desks():
            wrong = [value for value in odd_values() if value not in ([0] * jobs, (0,) * jobs)]
            for value in wrong + [[0] * (jobs + 1), [0] * (jobs - 1), [True] * jobs, [None] * jobs, "0" * jobs]:
                self.check(desk, BadArrivals, value, lambda: desk.arrive(value))
                check_raises(self, BadArrivals, value, lambda: desk.arrive(arrivals=value))
            self.check_still(desk)

    def test_move(self):
        for desk, servers, _ in self.desks():
            for value in values_but(int) + [-1, servers - 1, servers, 10 ** 45, Ratio(0)]:
                for amount in (0, 1, None, 10 ** 9):
                    check_raises(self, BadServer, value, lambda: desk.move(value, amount))
                self.check(desk, BadServer, value, lambda: desk.move(server=value, amount=0))
                self.check(desk, BadServer, value, lambda: desk.turn(value))
                check_raises(self, BadServer, value, lambda: desk.turn(server=value))
            if servers > 1:
                self.check_amounts(desk)
            self.check_still(desk)

    def check_amounts(self, desk):
        down, up = room_down(desk.line(), 0), room_up(desk.line(), 0)
        little = Ratio(1, LONG)
        wrong = [down + little, down + 1, -up - little, -up - 1, LONG, -LONG, (down + 1).top * down.bottom * 99]
        for value in values_but(int, Ratio) + wrong:
            self.check(desk, BadAmount, value, lambda: desk.move(0, value))
            check_raises(self, BadAmount, value, lambda: desk.move(server=0, amount=value))
        for value in (down, -up, 0, Ratio(0)):
            self.assertIsNone(desk.tried(lambda inner: inner.move(0, value)))

    def test_each_room_alone(self):
        desk = Desk(Line([[2, 0], [0, 1]]))
        check_raises(self, BadAmount, -2, lambda: desk.move(0, -2))
        check_raises(self, BadAmount, 3, lambda: desk.move(0, 3))
        desk.move(0, -1)
        desk.move(0, 3)
        self.assertEqual(desk.line().text(), "0 0\n2 1")
        check_raises(self, BadAmount, 1, lambda: desk.move(0, 1))

    def test_follow(self):
        for desk, servers, jobs in self.desks():
            wrong = [value for value in odd_values() if value not in ([0] * servers, (0,) * servers)]
            for value in wrong + [[0] * (servers + 1), [-1] * servers, [True] * servers, "0" * servers]:
                for arrival in (0, None, "late"):
                    check_raises(self, BadTimes, value, lambda: desk.follow(value, arrival))
                self.check(desk, BadTimes, value, lambda: desk.follow(times=value, arrival=0))
            for value in values_but(int, Ratio):
                if jobs < 6:
                    self.check(desk, BadNumber, value, lambda: desk.follow([0] * servers, value))
                    check_raises(self, BadNumber, value, lambda: desk.follow(times=[0] * servers, arrival=value))
                else:
                    self.check_seventh(desk, servers, value)
            self.check_still(desk)

    def check_seventh(self, desk, servers, arrival):
        with self.assertRaises(TooMany) as caught:
            desk.follow([0] * servers, arrival)
        self.assertEqual((type(caught.exception), caught.exception.count), (TooMany, 7))

    def test_strike(self):
        for desk, _, jobs in self.desks():
            if jobs == 1:
                before = seen(desk)
                check_raises_plain(self, OnlyJob, desk.strike)
                self.assertEqual(seen(desk), before)
                self.check_still(desk)

    def test_needed(self):
        for desk, _, jobs in self.desks():
            for value in values_but(int) + [-1, jobs, jobs + 1, 10 ** 45, Ratio(0)]:
                self.check(desk, BadJob, value, lambda: desk.needed(value))
                check_raises(self, BadJob, value, lambda: desk.needed(job=value))
