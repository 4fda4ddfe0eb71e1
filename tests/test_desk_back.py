"""Points [111], [112], and [9], [10] for them: undone and done again, tried, and twins."""

import unittest

from tandems.desk import Desk, read_desk
from tandems.errors import BadAmount, NothingToRedo, NothingToUndo
from tandems.lines import Line
from tandems.ratios import Ratio
from tests.support import check_raises, check_raises_plain, row_of_deeds, seen

HALF = Ratio(1, 2)


class Back(unittest.TestCase):
    def test_to_either_end_and_beyond(self):
        desk = Desk(Line([[1, 1], [1, 0]]))
        states = [seen(desk)]
        for act in (
            lambda: desk.move(0, 1), lambda: desk.arrive([3, HALF]), lambda: desk.follow([1, 2], -1), desk.strike,
            lambda: desk.set_time((1, 1), 9), lambda: desk.turn(0), lambda: desk.move(0, 0),
        ):
            act()
            states.append(seen(desk))
        for _ in range(2):
            for state in states[:-1][::-1]:
                self.assertIsNone(desk.undo())
                self.assertEqual(seen(desk), state)
            for _ in range(2):
                check_raises_plain(self, NothingToUndo, desk.undo)
                self.assertEqual(seen(desk), states[0])
            for state in states[1:]:
                self.assertIsNone(desk.redo())
                self.assertEqual(seen(desk), state)
            for _ in range(2):
                check_raises_plain(self, NothingToRedo, desk.redo)
                self.assertEqual(seen(desk), states[-1])

    def test_a_new_desk(self):
        desk = Desk(Line([[1]]))
        check_raises_plain(self, NothingToUndo, desk.undo)
        check_raises_plain(self, NothingToRedo, desk.redo)
        self.assertEqual(len(desk), 0)

    def test_a_new_deed_behind_an_undo(self):
        desk = Desk(Line([[1, 1], [1, 0]]))
        desk.move(0, 1)
        desk.arrive([1, 1])
        desk.undo()
        desk.undo()
        desk.set_time((0, 0), 1)
        check_raises_plain(self, NothingToRedo, desk.redo)
        self.assertEqual((len(desk), desk.text()), (1, "1 1\n1 0\narrivals 0 0"))
        desk.undo()
        desk.redo()
        self.assertEqual(len(desk), 1)
        check_raises_plain(self, NothingToRedo, desk.redo)

    def test_reads_are_no_deeds(self):
        desk = Desk(Line([[1, 1], [1, 0]]))
        desk.move(0, 1)
        desk.undo()
        seen(desk)
        desk.twin().move(0, HALF)
        desk.tried(lambda inner: inner.arrive([5, 5]))
        read_desk(desk.text())
        desk.redo()
        self.assertEqual((len(desk), desk.line().text()), (1, "0 1\n2 0"))


class Odd(Exception):
    """An error of a caller's own."""


class Stop(BaseException):
    """An error that is no Exception."""


def stop(desk, error):
    """Do much to a desk, and end with an error."""
    desk.undo()
    desk.arrive([7] * desk.line().jobs())
    desk.follow([1, 1], 2)
    desk.undo()
    raise error


class Tried(unittest.TestCase):
    def desk(self):
        """A desk with two deeds done and two taken back."""
        desk = Desk(Line([[1, 1], [1, 0]]))
        desk.move(0, 1)
        desk.arrive([1, HALF])
        desk.set_time((0, 0), 5)
        desk.turn(0)
        desk.undo()
        desk.undo()
        return desk

    def check(self, act):
        """Check that a desk is as before when it was tried, with all deeds done and taken back."""
        desk = self.desk()
        before = seen(desk)
        expected = row_of_deeds(self.desk())
        answer = act(desk)
        self.assertEqual(seen(desk), before)
        self.assertEqual(row_of_deeds(desk), expected)
        return answer

    def test_what_is_returned(self):
        answer = []
        self.assertIs(self.check(lambda desk: desk.tried(lambda inner: answer)), answer)
        self.assertIs(self.check(lambda desk: desk.tried(lambda inner: None)), None)
        self.assertIs(self.check(lambda desk: desk.tried(lambda inner: inner is desk)), True)
        self.assertEqual(self.check(lambda desk: desk.tried(Desk.text)), "0 1\n2 0\narrivals 1 1/2")

    def test_all_that_can_be_done_within(self):
        for act in (
            lambda inner: inner.move(0, -1), lambda inner: inner.arrive([9, 9]), lambda inner: inner.follow([1, 1], 1),
            lambda inner: inner.strike(), lambda inner: inner.turn(0), lambda inner: inner.set_time((0, 0), 9),
            lambda inner: inner.undo(), lambda inner: inner.redo(), lambda inner: [inner.undo(), inner.undo()],
            lambda inner: [inner.redo(), inner.redo()], lambda inner: [inner.undo(), inner.turn(0), inner.undo()],
            lambda inner: [inner.undo(), inner.undo(), inner.strike(), inner.redo], lambda inner: inner.twin().strike(),
            lambda inner: [inner.redo(), inner.redo(), inner.turn(0), inner.undo(), inner.redo(), inner.undo()],
        ):
            self.check(lambda desk: desk.tried(act))

    def test_what_is_told_within(self):
        desk = self.desk()
        told = desk.tried(lambda inner: [inner.turn(0), seen(inner)])[1]
        desk.turn(0)
        self.assertEqual(told, seen(desk))

    def test_tried_again_within(self):
        def outer(desk):
            desk.undo()
            between = seen(desk)
            found = desk.tried(lambda inner: [inner.undo(), inner.strike(), len(inner)])
            self.assertEqual(seen(desk), between)
            with self.assertRaises(Odd):
                desk.tried(lambda inner: stop(inner, Odd()))
            self.assertEqual(seen(desk), between)
            desk.redo()
            return found
        self.assertEqual(self.check(lambda desk: desk.tried(outer)), [None, None, 1])

    def test_errors_go_on(self):
        for error in (
            Odd("told"), ValueError(1), KeyError("k"), BadAmount(7), NothingToUndo(), Stop(), KeyboardInterrupt(),
            SystemExit(3), StopIteration(4), GeneratorExit(), MemoryError(), RecursionError(), AssertionError(),
        ):
            def run(desk):
                with self.assertRaises(type(error)) as caught:
                    desk.tried(lambda inner: stop(inner, error))
                self.assertIs(caught.exception, error)
            self.check(run)

    def test_errors_of_deeds_within(self):
        def run(desk):
            check_raises(self, BadAmount, 99, lambda: desk.tried(lambda inner: [inner.undo(), inner.move(0, 99)]))
            check_raises_plain(self, NothingToUndo, lambda: desk.tried(lambda inner: [inner.undo() for _ in range(9)]))
            check_raises_plain(self, NothingToRedo, lambda: desk.tried(lambda inner: [inner.redo() for _ in range(9)]))
        self.check(run)

    def test_what_is_no_function(self):
        def run(desk):
            with self.assertRaises(TypeError):
                desk.tried(7)
        self.check(run)

    def test_on_a_new_desk(self):
        desk = Desk(Line([[1]]))
        desk.tried(lambda inner: [inner.arrive([5]), inner.undo()])
        check_raises_plain(self, NothingToUndo, desk.undo)
        check_raises_plain(self, NothingToRedo, desk.redo)


class Twins(unittest.TestCase):
    def test_twins_part(self):
        desk = Desk(Line([[1, 1], [1, 0]]))
        desk.follow([2, 2], 7)
        desk.strike()
        desk.undo()
        twin = desk.twin()
        self.assertIs(type(twin), Desk)
        self.assertIsNot(twin, desk)
        self.assertEqual((len(twin), twin.text(), twin.is_steady()), (0, desk.text(), True))
        check_raises_plain(self, NothingToUndo, twin.undo)
        check_raises_plain(self, NothingToRedo, twin.redo)
        before = seen(desk)
        twin.strike()
        twin.arrive([9, 9])
        self.assertEqual(seen(desk), before)
        after = seen(twin)
        desk.redo()
        desk.arrive([4, 4])
        desk.undo()
        desk.undo()
        desk.undo()
        self.assertEqual(seen(twin), after)
        self.assertEqual((desk.is_steady(), desk.text()), (True, "1 1\n1 0\narrivals 0 0"))
        twin.undo()
        twin.undo()
        self.assertEqual((twin.is_steady(), twin.text()), (True, "1 1 2\n1 0 2\narrivals 0 0 7"))

    def test_a_twin_of_a_trial(self):
        desk = Desk(Line([[1, 1], [1, 0]]))
        twin = desk.tried(lambda inner: [inner.arrive([3, 4]), inner.twin()])[1]
        self.assertEqual((desk.text(), twin.text()), ("1 1\n1 0\narrivals 0 0", "1 1\n1 0\narrivals 3 4"))

    def test_unlike_its_first_line(self):
        desk = Desk(Line([[1, 1], [1, 0]]))
        desk.set_time((0, 0), 5)
        twin = desk.twin()
        self.assertEqual((desk.is_steady(), twin.is_steady()), (False, True))
        twin.set_time((0, 0), 1)
        self.assertIs(twin.is_steady(), False)
