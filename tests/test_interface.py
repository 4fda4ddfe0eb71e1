"""The section "The interface": its examples as they are written, its names and arguments."""

import importlib
import inspect
import unittest

from tests.support import check_examples

RATIOS = """
    >>> half = Ratio(-3, -6)
    >>> half.top, half.bottom, (half - 2).text(), half.over(Ratio(3, 4)).text(), half <= Ratio(1, 2), total([half, 1]).text()
    (1, 2, '-3/2', '2/3', True, '3/2')
    >>> as_ratio("1/2")
    raises BadNumber('1/2')
"""

LINES = r"""
    >>> line = Line([[1, 0, 2], [2, 1, Ratio(1, 2)]])
    >>> line.servers(), line.jobs(), [total.text() for total in line.totals()], line.time(1, 2).text(), line.part(1, 2).text().split("\n"), line.backwards().time(0, 0).text()
    (2, 3, ['3', '7/2'], '1/2', ['0 2', '1 1/2'], '1/2')
    >>> [[number.text() for number in row] for row in leavings(line, [0, 0, 5])], ends(line, [0, 0, 0])[2].text()
    ([['1', '1', '7'], ['3', '4', '15/2']], '9/2')
    >>> line.time(0, 3)
    raises BadJob(3)
"""

WAYS = r"""
    >>> line = Line([[1, 0, 2], [2, 1, Ratio(1, 2)]])
    >>> reach(line, 0, 2).text(), is_longest(line, 0, 2, [(0, 0), (1, 0), (1, 1), (1, 2)]), [[number.text() for number in row] for row in reaches(line)]
    ('9/2', True, [['3', '4', '9/2'], ['1', '5/2'], ['5/2']])
    >>> [[end.text(), first] for end, first in told_by(line, [0, 0, 5])], alike(line, Line([[0, 0, 2], [3, 1, Ratio(1, 2)]]))
    ([['3', 0], ['4', 0], ['15/2', 2]], True)
    >>> reach(line, 2, 1)
    raises BadJob(1)
"""

MOVES = r"""
    >>> line = Line([[1, 1], [1, 0]])
    >>> [[time.text() for time in row] for row in lone(line, 0)], [(job, later, amount.text()) for job, later, amount in pairs(line, 0)], room_up(line, 0).text()
    ([['1', '0'], ['0', '0']], [(0, 1, '1')], '0')
    >>> moved_down(line, 0, 1).text().split("\n"), moved_down(line, 0, Ratio(1, 2)).text().split("\n"), is_moved(line, Line([[0, 1], [2, 0]]), 0)
    (['0 1', '2 0'], ['1/2 1', '3/2 0'], True)
    >>> moved_up(line, 0, 1)
    raises BadAmount(1)
"""

TURNS = r"""
    >>> line = Line([[1, 1], [1, 0]])
    >>> turned(line, 0).text().split("\n"), turned(turned(line, 0), 0) == line, served_in(line, [1, 0]) == turned(line, 0), steps_to([1, 0])
    (['0 1', '2 0'], True, True, [0])
    >>> by_totals(line, [1, 2]) == risen(line), is_risen(line), [total.text() for total in served_in(Line([[3], [1], [2]]), [2, 0, 1]).totals()]
    (True, False, ['2', '3', '1'])
    >>> served_in(line, [0, 0])
    raises BadOrder([0, 0])
"""

FUNCTIONS = {
    "tandems.ratios": {
        "as_ratio": ["given"], "read_ratio": ["text"], "total": ["numbers"],
    },
    "tandems.lines": {
        "leavings": ["line", "arrivals"], "ends": ["line", "arrivals"],
    },
    "tandems.ways": {
        "reach": ["line", "first", "last"], "longest": ["line", "first", "last"],
        "is_longest": ["line", "first", "last", "value"], "reaches": ["line"], "told_by": ["line", "arrivals"],
        "alike": ["one", "other"], "parting": ["one", "other"], "is_parting": ["one", "other", "value"],
    },
    "tandems.moves": {
        "lone": ["line", "server"], "pairs": ["line", "server"], "room_down": ["line", "server"],
        "room_up": ["line", "server"], "moved_down": ["line", "server", "amount"],
        "moved_up": ["line", "server", "amount"], "is_moved": ["one", "other", "server"],
    },
    "tandems.turns": {
        "turned": ["line", "server"], "served_in": ["line", "order"], "steps_to": ["order"],
        "by_totals": ["line", "totals"], "risen": ["line"], "is_risen": ["line"],
    },
}

# Of an operator only the name is promised, so it has None in the place of its arguments.
CLASSES = {
    "tandems.ratios": {
        "Ratio": {
            "__init__": ["top", "bottom"], "over": ["number"], "text": [], "__add__": None, "__sub__": None,
            "__mul__": None, "__neg__": None, "__eq__": None, "__lt__": None, "__le__": None,
        },
    },
    "tandems.lines": {
        "Line": {
            "__init__": ["rows"], "servers": [], "jobs": [], "rows": [], "totals": [], "sums": [],
            "time": ["server", "job"], "text": [], "read": ["text"], "part": ["first", "last"], "backwards": [],
            "__eq__": None,
        },
    },
}


class Examples(unittest.TestCase):
    def test_ratios(self):
        check_examples(self, ["tandems.ratios"], RATIOS)

    def test_lines(self):
        check_examples(self, ["tandems.lines"], LINES)

    def test_ways(self):
        check_examples(self, ["tandems.lines", "tandems.ways"], WAYS)

    def test_moves(self):
        check_examples(self, ["tandems.lines", "tandems.moves"], MOVES)

    def test_turns(self):
        check_examples(self, ["tandems.lines", "tandems.turns"], TURNS)


class Names(unittest.TestCase):
    def test_functions(self):
        for name, functions in FUNCTIONS.items():
            module = importlib.import_module(name)
            for word, expected in functions.items():
                function = getattr(module, word)
                self.assertTrue(inspect.isfunction(function), word)
                self.assertEqual(function.__module__, name, word)
                self.assertEqual(list(inspect.signature(function).parameters), expected, word)

    def test_classes(self):
        for name, classes in CLASSES.items():
            module = importlib.import_module(name)
            for word, methods in classes.items():
                kind = getattr(module, word)
                self.assertEqual(kind.__module__, name, word)
                for method, expected in methods.items():
                    self.check_method(kind, method, expected)

    def check_method(self, kind, method, expected):
        self.assertIn(method, vars(kind))
        if expected is not None:
            parameters = list(inspect.signature(getattr(kind, method)).parameters)
            self.assertEqual([word for word in parameters if word != "self"], expected, method)

    def test_default(self):
        ratios = importlib.import_module("tandems.ratios")
        self.assertEqual(inspect.signature(ratios.Ratio).parameters["bottom"].default, 1)
