"""What several tests use: values to refuse, checks of errors, the document's examples."""

import ast
import importlib
from fractions import Fraction

from tandems import errors
from tandems.lines import Line
from tandems.ratios import Ratio


def odd_values():
    """Values of every kind that may be passed where a point tells an error [10]."""
    return [
        None, True, False,
        -1, 7, 99, 10 ** 45, -(10 ** 45),
        Ratio(0), Ratio(1), Ratio(3), Ratio(-1), Ratio(1, 2), Ratio(-1, 2),
        "", "0", "1", "1/2", "one",
        [], [0], [None], [True], ["0"], [[]], [[None]], [0, 0, 0, 0, 0, 0, 0],
        (), (0,), (None,), ((),), (0, (1, [2])),
        {}, {"0": 0}, {"given": [1]},
    ]


def values_but(*kinds):
    """The odd values that are of none of these very classes."""
    return [value for value in odd_values() if value.__class__ not in kinds]


def strange_values():
    """Values of further kinds, which only what judges a value may be passed."""
    knot = []
    knot.append(knot)
    return [
        0.0, 1.5, float("nan"), float("inf"), 1j, b"", b"\x00", object(), Ratio, odd_values, lambda: 0, range(2), {0},
        frozenset([0]), iter([0]), [0.0], [float("nan")], knot, (knot, knot), [[], [knot]], {0: 0}, Line([[0]]),
        [Line([[0]])], errors.BadJob(0), NotImplemented, ...,
    ]


def check_raises(case, kind, given, act):
    """Check that act() raises this very error, with the very value that was passed."""
    with case.assertRaises(errors.TandemsError, msg=repr(given)) as caught:
        act()
    case.assertIs(type(caught.exception), kind, repr(given))
    case.assertIs(caught.exception.given, given)


def check_raises_plain(case, kind, act):
    """Check that act() raises this very error, one without attributes."""
    with case.assertRaises(errors.TandemsError) as caught:
        act()
    case.assertIs(type(caught.exception), kind)
    case.assertEqual(vars(caught.exception), {})


def check_texts(case, ratios, texts):
    """Check that a list is one of Ratios, and that these are their texts."""
    case.assertIs(type(ratios), list)
    for ratio in ratios:
        case.assertIs(type(ratio), Ratio)
    case.assertEqual([ratio.text() for ratio in ratios], texts)


def fraction(number):
    """A number as a Fraction, which the tests compare with."""
    if isinstance(number, Ratio):
        return Fraction(number.top, number.bottom)
    return Fraction(number)


def fractions(rows):
    """The lists of numbers as lists of Fractions."""
    return [[fraction(number) for number in row] for row in rows]


def check_examples(case, modules, text):
    """Run examples in the form of the document, with the names of these modules."""
    names = {"Ratio": Ratio}
    for module in modules:
        names.update(vars(importlib.import_module(module)))
    asked = None
    ran = 0
    for row in text.strip().split("\n"):
        row = row.strip()
        if row.startswith(">>> "):
            asked = row[4:]
            if isinstance(ast.parse(asked).body[0], ast.Assign):
                exec(asked, names)
                asked = None
        elif row.startswith("raises "):
            check_example_raises(case, asked, names, row[7:])
            ran += 1
        else:
            case.assertEqual(repr(eval(asked, names)), row, asked)
            ran += 1
    case.assertGreater(ran, 0)


def check_example_raises(case, asked, names, told):
    """Check that what an example asks raises the error that it tells."""
    expected = eval(told, {**names, **vars(errors)})
    with case.assertRaises(errors.TandemsError, msg=asked) as caught:
        eval(asked, names)
    case.assertIs(type(caught.exception), type(expected), asked)
    case.assertEqual(vars(caught.exception), vars(expected), asked)


def seen(desk):
    """All that a desk tells, to be compared with what it tells at another time."""
    line = desk.line()
    return (
        line.text(), [number.text() for number in desk.arrivals()], [number.text() for number in desk.ends()],
        [number.text() for number in desk.rooms()], fractions(desk.triangle()), desk.is_steady(), len(desk),
        desk.text(), [desk.needed(job) for job in range(line.jobs())],
    )


def row_of_deeds(desk):
    """What a desk tells now and after each undo, and after each redo: brings it to its end, too."""
    told = [seen(desk)]
    while len(desk):
        desk.undo()
        told.append(seen(desk))
    while True:
        try:
            desk.redo()
        except errors.NothingToRedo:
            return told
        told.append(seen(desk))
