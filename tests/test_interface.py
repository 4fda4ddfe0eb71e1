"""The section "The interface": its examples as they are written, its names and arguments."""

import importlib
import inspect
import unittest

from tests.support import check_examples

RATIOS = """
    >>> half = Ratio(-3, -6)
    >>> half.top, half.bottom, (half - 2).text(), half.over(Ratio(3, 4)).text(), half <= Ratio(1, 2), total([half, 1]).text()
    (1, 2, '-3/2', '2/3', True, '3/2')
    >>> as_ratio("1/2")
    raises BadNumber('1/2')
"""

LINES = r"""
    >>> line = Line([[1, 0, 2], [2, 1, Ratio(1, 2)]])
    >>> line.servers(), line.jobs(), [total.text() for total in line.totals()], line.time(1, 2).text(), line.part(1, 2).text().split("\n"), line.backwards().time(0, 0).text()
    (2, 3, ['3', '7/2'], '1/2', ['0 2', '1 1/2'], '1/2')
    >>> [[number.text() for number in row] for row in leavings(line, [0, 0, 5])], ends(line, [0, 0, 0])[2].text()
    ([['1', '1', '7'], ['3', '4', '15/2']], '9/2')
    >>> line.time(0, 3)
    raises BadJob(3)
"""

WAYS = r"""
    >>> line = Line([[1, 0, 2], [2, 1, Ratio(1, 2)]])
    >>> reach(line, 0, 2).text(), is_longest(line, 0, 2, [(0, 0), (1, 0), (1, 1), (1, 2)]), [[number.text() for number in row] for row in reaches(line)]
    ('9/2', True, [['3', '4', '9/2'], ['1', '5/2'], ['5/2']])
    >>> [[end.text(), first] for end, first in told_by(line, [0, 0, 5])], alike(line, Line([[0, 0, 2], [3, 1, Ratio(1, 2)]]))
    ([['3', 0], ['4', 0], ['15/2', 2]], True)
    >>> reach(line, 2, 1)
    raises BadJob(1)
"""

MOVES = r"""
    >>> line = Line([[1, 1], [1, 0]])
    >>> [[time.text() for time in row] for row in lone(line, 0)], [(job, later, amount.text()) for job, later, amount in pairs(line, 0)], room_up(line, 0).text()
    ([['1', '0'], ['0', '0']], [(0, 1, '1')], '0')
    >>> moved_down(line, 0, 1).text().split("\n"), moved_down(line, 0, Ratio(1, 2)).text().split("\n"), is_moved(line, Line([[0, 1], [2, 0]]), 0)
    (['0 1', '2 0'], ['1/2 1', '3/2 0'], True)
    >>> moved_up(line, 0, 1)
    raises BadAmount(1)
"""

TURNS = r"""
    >>> line = Line([[1, 1], [1, 0]])
    >>> turned(line, 0).text().split("\n"), turned(turned(line, 0), 0) == line, served_in(line, [1, 0]) == turned(line, 0), steps_to([1, 0])
    (['0 1', '2 0'], True, True, [0])
    >>> by_totals(line, [1, 2]) == risen(line), is_risen(line), [total.text() for total in served_in(Line([[3], [1], [2]]), [2, 0, 1]).totals()]
    (True, False, ['2', '3', '1'])
    >>> served_in(line, [0, 0])
    raises BadOrder([0, 0])
"""

SHAPES = r"""
    >>> line = Line([[1, 1], [1, 0]])
    >>> [[number.text() for number in row] for row in triangle(line)], load(line, 0, 1, 2).text(), pushed(line).text().split("\n")
    ([['2', '0'], ['2', '1']], '3', ['0 1', '2 0'])
    >>> is_pushed(pushed(line)), is_cover(line, 0, 1, 1, (2, [[(0, 1), (1, 2)], [(1, 2), (2, 2)]])), is_pushed(line)
    (True, True, False)
    >>> load(line, 1, 0, 1)
    raises BadJob(0)
"""

KIN = """
    >>> line, other = Line([[1, 1], [1, 0]]), Line([[0, 1], [2, 0]])
    >>> are_kin(line, other), unlike_load(line, other), leading(line, Line([[1, 1], [1, 1]])), is_unlike_load(line, Line([[1, 1], [1, 1]]), (1, 2))
    (True, None, None, True)
    >>> [[number.text() for number in row] for row in sides(line)], line_by([[2, 0], [2, 1]], [[2], [2, 1]]) == line, line_of([[2, 0], [2, 1]]) == other
    ([['2'], ['2', '1']], True, True)
    >>> is_triangle([[2, 0], [2, 3]]), fault([[2, 0], [2, 3]])
    (False, (1, 1))
    >>> line_of([[2, 1]])
    raises BadTriangle([[2, 1]])
"""

SLACKS = """
    >>> line = Line([[1, 0, 2], [2, 1, Ratio(1, 2)]])
    >>> through(line, 0, 2, (0, 2)).text(), through(line, 1, 2, (0, 0)), [number.text() for number in bend(line, [0, 0, 0], (0, 2), 2)]
    ('7/2', None, ['9/2', '3'])
    >>> [number if number is None else number.text() for number in slack(line, [0, 0, 0], (0, 1))], needed(line, [0, 0, 0], 2)
    ([None, '2', '1'], [(0, 0), (1, 0), (1, 1), (1, 2)])
    >>> with_time(line, (0, 1), 3).sums()[1].text()
    '4'
    >>> with_time(line, (2, 0), 1)
    raises BadPlace((2, 0))
"""

LATES = """
    >>> line = Line([[1, 0, 2], [2, 1, Ratio(1, 2)]])
    >>> [number.text() for number in latest(line, [3, 6, 6])], keeps(line, [0, 3, 4], [3, 6, 6]), is_ends(line, [3, 4, 4])
    (['0', '7/2', '7/2'], False, False)
    >>> [number.text() for number in nearest_ends(line, [3, 6, 6])], [number.text() for number in rooms(line, [0, 0, 0])]
    (['3', '9/2', '6'], ['0', '2', '2'])
    >>> latest(line, [1, 2])
    raises BadDues([1, 2])
"""

AGAINST = """
    >>> line, other = Line([[1, 1], [1, 0]]), Line([[2, 0], [0, 1]])
    >>> never_later(other, line), never_later(line, other), later_by(other, line)[0].text(), is_later(other, line, ([0, 0], 1))
    (False, True, '1', True)
    >>> [number.text() for number in by_turns(other, line, [0, 0])], job_later_by(line, other, 0)[0].text()
    (['0', '1'], '0')
    >>> later_by(line, Line([[1]]))
    raises Unlike()
"""

JOINS = r"""
    >>> line = Line([[1, 1], [1, 0]])
    >>> joined(line, Line([[2, 0]])).text().split("\n"), split(line, 0)[1].text(), followed(line, [2, 3]).sums()[2].text(), without_first(line).text().split("\n")
    (['1 1', '1 0', '2 0'], '1 0', '5', ['1', '0'])
    >>> [[number.text() for number in row] for row in back_triangle([[2, 0], [2, 1]])], [number.text() for number in stretch_shape([[2, 0], [2, 1]], 1, 1)]
    ([['1', '0'], ['2', '1']], ['1', '0'])
    >>> struck_triangle([[2, 0], [2, 1]])[0][0].text(), headed(line, [0, 5]).time(1, 0).text()
    ('1', '5')
    >>> joined(line, Line([[1]]))
    raises Unlike()
"""

DESK = r"""
    >>> desk = Desk(Line([[1, 1], [1, 0]]))
    >>> desk.move(0, 1), desk.line().text().split("\n"), [end.text() for end in desk.ends()], desk.is_steady(), len(desk)
    (None, ['0 1', '2 0'], ['2', '2'], True, 1)
    >>> desk.follow([0, 3], 1), [end.text() for end in desk.ends()], desk.is_steady(), desk.needed(2), desk.text().split("\n")[2]
    (None, ['2', '2', '5'], False, [(1, 0), (1, 2)], 'arrivals 0 0 1')
    >>> desk.undo(), desk.undo(), desk.line().text().split("\n"), desk.redo(), desk.tried(lambda inner: [inner.turn(0), inner.is_steady()])
    (None, None, ['1 1', '1 0'], None, [None, True])
    >>> desk.move(0, 7)
    raises BadAmount(7)
"""

FUNCTIONS = {
    "tandems.ratios": {
        "as_ratio": ["given"], "read_ratio": ["text"], "total": ["numbers"],
    },
    "tandems.lines": {
        "leavings": ["line", "arrivals"], "ends": ["line", "arrivals"],
    },
    "tandems.ways": {
        "reach": ["line", "first", "last"], "longest": ["line", "first", "last"],
        "is_longest": ["line", "first", "last", "value"], "reaches": ["line"], "told_by": ["line", "arrivals"],
        "alike": ["one", "other"], "parting": ["one", "other"], "is_parting": ["one", "other", "value"],
    },
    "tandems.moves": {
        "lone": ["line", "server"], "pairs": ["line", "server"], "room_down": ["line", "server"],
        "room_up": ["line", "server"], "moved_down": ["line", "server", "amount"],
        "moved_up": ["line", "server", "amount"], "is_moved": ["one", "other", "server"],
    },
    "tandems.turns": {
        "turned": ["line", "server"], "served_in": ["line", "order"], "steps_to": ["order"],
        "by_totals": ["line", "totals"], "risen": ["line"], "is_risen": ["line"],
    },
    "tandems.shapes": {
        "load": ["line", "first", "last", "count"], "bundle": ["line", "first", "last", "count"],
        "is_bundle": ["line", "first", "last", "count", "value"], "cover": ["line", "first", "last", "count"],
        "is_cover": ["line", "first", "last", "count", "value"], "shape": ["line", "first", "last"],
        "triangle": ["line"], "pushed": ["line"], "is_pushed": ["line"], "pushing": ["line"],
    },
    "tandems.kin": {
        "are_kin": ["one", "other"], "leading": ["one", "other"], "unlike_load": ["one", "other"],
        "is_unlike_load": ["one", "other", "value"], "is_triangle": ["value"], "fault": ["value"],
        "line_of": ["triangle"], "sides": ["line"], "line_by": ["triangle", "sides"],
    },
    "tandems.slacks": {
        "with_time": ["line", "place", "time"], "through": ["line", "first", "last", "place"],
        "bend": ["line", "arrivals", "place", "job"], "slack": ["line", "arrivals", "place"],
        "needed": ["line", "arrivals", "job"],
    },
    "tandems.lates": {
        "latest": ["line", "dues"], "keeps": ["line", "arrivals", "dues"], "is_ends": ["line", "value"],
        "nearest_ends": ["line", "dues"], "rooms": ["line", "arrivals"],
    },
    "tandems.against": {
        "never_later": ["one", "other"], "shown_later": ["one", "other"], "is_later": ["one", "other", "value"],
        "later_by": ["one", "other"], "job_later_by": ["one", "other", "job"],
        "by_turns": ["one", "other", "arrivals"],
    },
    "tandems.joins": {
        "joined": ["one", "other"], "split": ["line", "server"], "followed": ["line", "times"],
        "headed": ["line", "times"], "without_last": ["line"], "without_first": ["line"],
        "back_triangle": ["triangle"], "struck_triangle": ["triangle"],
        "stretch_shape": ["triangle", "first", "last"],
    },
    "tandems.desk": {
        "read_desk": ["text"],
    },
}

# Of an operator only the name is promised, so it has None in the place of its arguments.
CLASSES = {
    "tandems.ratios": {
        "Ratio": {
            "__init__": ["top", "bottom"], "over": ["number"], "text": [], "__add__": None, "__sub__": None,
            "__mul__": None, "__neg__": None, "__eq__": None, "__lt__": None, "__le__": None,
        },
    },
    "tandems.lines": {
        "Line": {
            "__init__": ["rows"], "servers": [], "jobs": [], "rows": [], "totals": [], "sums": [],
            "time": ["server", "job"], "text": [], "read": ["text"], "part": ["first", "last"], "backwards": [],
            "__eq__": None,
        },
    },
    "tandems.desk": {
        "Desk": {
            "__init__": ["line"], "set_time": ["place", "time"], "arrive": ["arrivals"], "move": ["server", "amount"],
            "turn": ["server"], "follow": ["times", "arrival"], "strike": [], "__len__": None, "line": [],
            "arrivals": [], "ends": [], "rooms": [], "triangle": [], "is_steady": [], "needed": ["job"],
            "undo": [], "redo": [], "tried": ["act"], "twin": [], "text": [],
        },
    },
}


class Examples(unittest.TestCase):
    def test_ratios(self):
        check_examples(self, ["tandems.ratios"], RATIOS)

    def test_lines(self):
        check_examples(self, ["tandems.lines"], LINES)

    def test_ways(self):
        check_examples(self, ["tandems.lines", "tandems.ways"], WAYS)

    def test_moves(self):
        check_examples(self, ["tandems.lines", "tandems.moves"], MOVES)

    def test_turns(self):
        check_examples(self, ["tandems.lines", "tandems.turns"], TURNS)

    def test_shapes(self):
        check_examples(self, ["tandems.lines", "tandems.shapes"], SHAPES)

    def test_kin(self):
        check_examples(self, ["tandems.lines", "tandems.kin"], KIN)

    def test_slacks(self):
        check_examples(self, ["tandems.lines", "tandems.slacks"], SLACKS)

    def test_lates(self):
        check_examples(self, ["tandems.lines", "tandems.lates"], LATES)

    def test_against(self):
        check_examples(self, ["tandems.lines", "tandems.against"], AGAINST)

    def test_joins(self):
        check_examples(self, ["tandems.lines", "tandems.joins"], JOINS)

    def test_desk(self):
        check_examples(self, ["tandems.lines", "tandems.desk"], DESK)


class Names(unittest.TestCase):
    def test_functions(self):
        for name, functions in FUNCTIONS.items():
            module = importlib.import_module(name)
            for word, expected in functions.items():
                function = getattr(module, word)
                self.assertTrue(inspect.isfunction(function), word)
                self.assertEqual(function.__module__, name, word)
                self.assertEqual(list(inspect.signature(function).parameters), expected, word)

    def test_classes(self):
        for name, classes in CLASSES.items():
            module = importlib.import_module(name)
            for word, methods in classes.items():
                kind = getattr(module, word)
                self.assertEqual(kind.__module__, name, word)
                for method, expected in methods.items():
                    self.check_method(kind, method, expected)

    def check_method(self, kind, method, expected):
        self.assertIn(method, vars(kind))
        if expected is not None:
            parameters = list(inspect.signature(getattr(kind, method)).parameters)
            self.assertEqual([word for word in parameters if word != "self"], expected, method)

    def test_default(self):
        ratios = importlib.import_module("tandems.ratios")
        self.assertEqual(inspect.signature(ratios.Ratio).parameters["bottom"].default, 1)
