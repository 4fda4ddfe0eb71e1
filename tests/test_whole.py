"""Points [9] to [11] over the whole program: every function of the interface is called here."""

import importlib
import unittest

from tandems.desk import Desk
from tandems.lines import Line
from tandems.ratios import Ratio
from tests.support import odd_values, strange_values
from tests.test_interface import FUNCTIONS

HALF = Ratio(1, 2)
LONG = 10 ** 40 - 1
LINE = Line([[1, 0, 2], [2, 1, HALF]])
MOVED = Line([[0, 0, 2], [3, 1, HALF]])
OTHER = Line([[1, 0, 2], [2, 1, 1]])
WAY = [(0, 0), (1, 0), (1, 1), (1, 2)]
COVER = (3, [[(0, 1)], [(1, 3)]])
TABLE = [[3, 0], [3, 1], [Ratio(9, 2), 2]]

# For each function of the interface arguments of the kinds that it takes.
CALLS = {
    "tandems.ratios": {
        "as_ratio": [[3], [HALF]], "read_ratio": [["-1/2"]], "total": [[[1, HALF]], [[]]],
    },
    "tandems.lines": {
        "leavings": [[LINE, [0, HALF, -3]]], "ends": [[LINE, [0, HALF, -3]]],
    },
    "tandems.ways": {
        "reach": [[LINE, 0, 2]], "longest": [[LINE, 0, 2]], "is_longest": [[LINE, 0, 2, WAY], [LINE, 0, 1, WAY]],
        "reaches": [[LINE]], "told_by": [[LINE, [0, HALF, 9]]], "alike": [[LINE, MOVED], [LINE, OTHER]],
        "parting": [[LINE, MOVED], [LINE, OTHER]], "is_parting": [[LINE, OTHER, [0, 0, 0]], [LINE, MOVED, [0, 0, 0]]],
    },
    "tandems.moves": {
        "lone": [[LINE, 0]], "pairs": [[LINE, 0]], "room_down": [[LINE, 0]], "room_up": [[LINE, 0]],
        "moved_down": [[LINE, 0, 1]], "moved_up": [[LINE, 0, HALF]], "is_moved": [[LINE, MOVED, 0], [LINE, OTHER, 0]],
    },
    "tandems.turns": {
        "turned": [[LINE, 0]], "served_in": [[LINE, [1, 0]]], "steps_to": [[[2, 0, 1]]],
        "by_totals": [[LINE, [Ratio(7, 2), 3]]], "risen": [[LINE]], "is_risen": [[LINE], [Line([[3], [1]])]],
    },
    "tandems.shapes": {
        "load": [[LINE, 0, 2, 2]], "bundle": [[LINE, 0, 2, 3]],
        "is_bundle": [[LINE, 0, 2, 1, [WAY]], [LINE, 0, 2, 2, [WAY, WAY]]], "cover": [[LINE, 0, 2, 1]],
        "is_cover": [[LINE, 0, 0, 1, COVER], [LINE, 0, 1, 1, COVER]], "shape": [[LINE, 0, 1]], "triangle": [[LINE]],
        "pushed": [[LINE]], "is_pushed": [[LINE], [MOVED]], "pushing": [[LINE]],
    },
    "tandems.kin": {
        "are_kin": [[LINE, MOVED], [LINE, OTHER]], "leading": [[MOVED, LINE], [LINE, OTHER]],
        "unlike_load": [[LINE, MOVED], [LINE, OTHER]], "is_unlike_load": [[LINE, OTHER, (2, 1)], [LINE, OTHER, (1, 1)]],
        "is_triangle": [[TABLE], [[[2, 1]]]], "fault": [[TABLE], [[[2, 1]]]], "line_of": [[TABLE]], "sides": [[LINE]],
        "line_by": [[TABLE, [[3], [Ratio(9, 2), 2]]]],
    },
    "tandems.slacks": {
        "with_time": [[LINE, (0, 1), 4]], "through": [[LINE, 0, 2, (0, 1)], [LINE, 1, 2, (0, 0)]],
        "bend": [[LINE, [0, 0, HALF], (0, 1), 2], [LINE, [0, 0, 0], (0, 1), 0]], "slack": [[LINE, [0, 0, 9], (0, 1)]],
        "needed": [[LINE, [0, 0, 9], 1]],
    },
    "tandems.lates": {
        "latest": [[LINE, [3, 6, HALF]]], "keeps": [[LINE, [0, 0, 0], [3, 4, 5]], [LINE, [0, 0, 0], [3, 4, 4]]],
        "is_ends": [[LINE, [3, 4, 5]], [LINE, [3, 3, 3]]], "nearest_ends": [[LINE, [3, 6, 6]]],
        "rooms": [[LINE, [0, HALF, 0]]],
    },
    "tandems.against": {
        "never_later": [[LINE, OTHER], [OTHER, LINE]], "shown_later": [[OTHER, LINE], [LINE, OTHER]],
        "is_later": [[OTHER, LINE, ([0, 0, 0], 2)], [LINE, OTHER, ([0, 0, 0], 2)]], "later_by": [[OTHER, LINE]],
        "job_later_by": [[OTHER, LINE, 2]], "by_turns": [[OTHER, LINE, [0, HALF, 0]]],
    },
    "tandems.joins": {
        "joined": [[LINE, OTHER]], "split": [[LINE, 0]], "followed": [[LINE, [1, HALF]]], "headed": [[LINE, [1, HALF]]],
        "without_last": [[LINE]], "without_first": [[LINE]], "back_triangle": [[TABLE]], "struck_triangle": [[TABLE]],
        "stretch_shape": [[TABLE, 1, 2]],
    },
    "tandems.desk": {
        "read_desk": [["1 1\n1 0\narrivals 0 1/2"]],
    },
}


def all_calls():
    """Each function with its name, its arguments' names and arguments for it."""
    for module, functions in CALLS.items():
        for name, given in functions.items():
            function = getattr(importlib.import_module(module), name)
            for arguments in given:
                yield name, function, FUNCTIONS[module][name], arguments


def plain(value):
    """A value in a form in which all that counts, kinds too, can be compared."""
    if isinstance(value, (list, tuple)):
        return [type(value).__name__] + [plain(item) for item in value]
    if isinstance(value, Ratio):
        return ["Ratio", value.top, value.bottom]
    if isinstance(value, (Line, Desk)):
        return [type(value).__name__, value.text()]
    return [type(value).__name__, value]


def in_tuples(value):
    """A value with tuples for all lists."""
    return tuple([in_tuples(item) for item in value]) if isinstance(value, (list, tuple)) else value


def in_lists(value):
    """A value with lists for all tuples."""
    return [in_lists(item) for item in value] if isinstance(value, (list, tuple)) else value


def lists_within(value):
    """All lists within a value, also within its lists and tuples."""
    found = [value] if isinstance(value, list) else []
    if isinstance(value, (list, tuple)):
        for item in value:
            found.extend(lists_within(item))
    return found


def has_tuple(value):
    return isinstance(value, tuple) or isinstance(value, list) and any([has_tuple(item) for item in value])


class Calls(unittest.TestCase):
    def test_every_function_is_called(self):
        told = {module: sorted(functions) for module, functions in CALLS.items()}
        self.assertEqual(told, {module: sorted(functions) for module, functions in FUNCTIONS.items()})

    def test_judges_tell_both(self):
        answers = {}
        for name, function, _, arguments in all_calls():
            answer = function(*arguments)
            if isinstance(answer, bool):
                answers.setdefault(name, []).append(answer)
        for name, told in answers.items():
            self.assertEqual(sorted(told), [False, True], name)

    def test_by_position_and_by_name(self):
        for name, function, names, arguments in all_calls():
            expected = plain(function(*arguments))
            self.assertEqual(plain(function(*arguments)), expected, name)
            self.assertEqual(plain(function(**dict(zip(names, arguments)))), expected, name)
            self.assertEqual(plain(function(**dict(list(zip(names, arguments))[::-1]))), expected, name)
            self.assertEqual(plain(function(arguments[0], **dict(zip(names[1:], arguments[1:])))), expected, name)

    def test_tuples_for_lists(self):
        for name, function, _, arguments in all_calls():
            given = [in_tuples(value) for value in arguments]
            self.assertEqual(plain(function(*given)), plain(function(*arguments)), name)

    def test_no_lists_for_tuples(self):
        # Beside the judges a tuple is only asked for as a place, and there another error counts.
        for name, function, names, arguments in all_calls():
            if any([has_tuple(value) for value in arguments]):
                given = [in_lists(value) for value in arguments]
                if name.startswith("is_"):
                    self.assertIs(function(*given), False, name)
                else:
                    place = given[names.index("place")]
                    with self.assertRaises(ValueError) as caught:
                        function(*given)
                    self.assertEqual(type(caught.exception).__name__, "BadPlace")
                    self.assertIs(caught.exception.given, place)

    def test_equal_arguments_have_equal_answers(self):
        for name, function, _, arguments in all_calls():
            given = [Line(value.rows()) if isinstance(value, Line) else value for value in arguments]
            self.assertEqual(plain(function(*given)), plain(function(*arguments)), name)

    def test_lists_are_new(self):
        for name, function, _, arguments in all_calls():
            expected = plain(function(*arguments))
            answer = function(*arguments)
            seen = lists_within(answer)
            self.assertEqual(len({id(part) for part in seen}), len(seen), name)
            for part in seen:
                part.append(None)
                part[0] = "changed"
            self.assertEqual(plain(function(*arguments)), expected, name)

    def test_arguments_are_neither_changed_nor_kept(self):
        for name, function, _, arguments in all_calls():
            given = [in_lists_but_tuples(value) for value in arguments]
            before = plain(given)
            answer = function(*given)
            told = plain(answer)
            self.assertEqual(plain(given), before, name)
            for part in lists_within(given):
                part.append(None)
                part[0] = "changed"
            self.assertEqual(plain(answer), told, name)

    def test_what_is_told_of_numbers(self):
        # All numbers are Ratios, but what is told of servers, jobs, counts and indices.
        counted = {"longest", "told_by", "pairs", "steps_to", "bundle", "pushing", "leading", "unlike_load", "fault",
                   "needed", "shown_later", "later_by"}
        for name, function, _, arguments in all_calls():
            self.assertEqual(has_int(function(*arguments)) and name not in counted, False, name)


def in_lists_but_tuples(value):
    """A copy of a value in which all lists are new."""
    if isinstance(value, tuple):
        return tuple([in_lists_but_tuples(item) for item in value])
    return [in_lists_but_tuples(item) for item in value] if isinstance(value, list) else value


def has_int(value):
    if isinstance(value, (list, tuple)):
        return any([has_int(item) for item in value])
    return type(value) is int


class Judges(unittest.TestCase):
    def test_nothing_is_raised_for_any_value(self):
        for name, function, names, arguments in all_calls():
            if name.startswith("is_") and names[-1] == "value":
                for value in odd_values() + strange_values() + list(nested_values()):
                    given = arguments[:-1] + [value]
                    self.assertIn(function(*given), (True, False), name)
                    self.assertIs(type(function(**dict(zip(names, given)))), bool, name)
                self.check_near(name, function, arguments)

    def check_near(self, name, function, arguments):
        """Put each odd value at each place within a value that is judged."""
        for value in odd_values() + strange_values():
            for near in replaced(arguments[-1], value):
                self.assertIs(type(function(*arguments[:-1], near)), bool, name)


def nested_values():
    """Odd values within lists and tuples, one and two deep."""
    for value in odd_values() + strange_values():
        yield from ([value], (value,), [value, value], (value, value), [[value]], [(value, 0)])
        yield from (([value], 0), (0, [value]))
        yield from ([[value, value]] * 2, (1, [[(value, 1)]]), (1, [[(0, value)]]), ([[value]], value), [[[value]]])


def replaced(value, other):
    """The values with another one in the place of each item within lists and tuples."""
    yield other
    if isinstance(value, (list, tuple)):
        for at, item in enumerate(value):
            for near in replaced(item, other):
                yield type(value)([*value[:at], near, *value[at + 1:]])


class Limits(unittest.TestCase):
    def test_what_was_returned_can_be_passed_again(self):
        # Sums, moves and loads of such times have far more than 40 digits.
        line = Line([[Ratio(LONG - 7 * job, LONG - 3 * server) for job in range(6)] for server in range(4)])
        modules = {name: importlib.import_module("tandems." + name) for name in (
            "shapes", "kin", "lates", "against", "joins", "slacks", "turns", "lines", "moves",
        )}
        other = modules["turns"].served_in(line, [3, 1, 2, 0])
        self.assertNotEqual(other, line)
        table = modules["shapes"].triangle(other)
        self.assertIs(modules["kin"].is_triangle(table), True)
        self.assertEqual(modules["kin"].line_by(table, modules["kin"].sides(line)), line)
        self.assertEqual(modules["joins"].back_triangle(modules["joins"].back_triangle(table)), table)
        for count in range(1, 7):
            cover = modules["shapes"].cover(line, 0, 5, count)
            self.assertIs(modules["shapes"].is_cover(line, 0, 5, count, cover), True)
        ends = modules["lines"].ends(other, modules["shapes"].shape(line, 0, 5) + [0, LONG])
        self.assertIs(modules["lates"].is_ends(line, ends), True)
        self.assertEqual(modules["lates"].nearest_ends(line, ends), ends)
        self.assertEqual(modules["against"].later_by(line, other)[0], Ratio(0))
        self.assertEqual(modules["slacks"].slack(line, ends, (3, 5))[:5], [None] * 5)
        self.assertEqual(Line.read(other.text()), other)

    def test_lines_of_full_size_on_a_desk(self):
        desk = Desk(Line([[Ratio(LONG - 7 * job, LONG - 3 * server) for job in range(6)] for server in range(4)]))
        for deed in range(60):
            desk.turn(deed % 3)
            desk.arrive(desk.ends())
            desk.arrive([room - end for room, end in zip(desk.rooms(), desk.ends())])
            desk.move(1, 0)
        self.assertEqual((len(desk), desk.is_steady()), (240, True))
        self.assertEqual(desk.triangle(), desk.twin().triangle())
