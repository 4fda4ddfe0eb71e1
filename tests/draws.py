"""Drawn lines of all sizes, lines kin to them, and values that are wrong for a line of a size."""

import itertools

from tandems.moves import moved_down, moved_up, room_down, room_up
from tandems.ratios import Ratio
from tests.oracles import drawn, drawn_arrivals, drawn_rows
from tests.support import fractions, odd_values


def sizes():
    """All numbers of servers and jobs of a line."""
    return itertools.product(range(1, 5), range(1, 7))


def stretches(jobs):
    """All first and last jobs that can be asked for."""
    return [(first, last) for first in range(jobs) for last in range(first, jobs)]


def many_rows(seed, draws):
    """So many drawn lines of each size, and one more with a server of noughts."""
    source = drawn(seed)
    for servers, jobs in sizes():
        for _ in range(draws):
            yield drawn_rows(source, servers, jobs)
        rows = drawn_rows(source, servers, jobs)
        yield rows[1:] + fractions([[0] * jobs])


def many_with_numbers(seed, draws):
    """So many drawn lines of each size, each with a list of a number for each job."""
    source = drawn(seed)
    for servers, jobs in sizes():
        for _ in range(draws):
            yield drawn_rows(source, servers, jobs), drawn_arrivals(source, jobs)


def walked(source, line, steps):
    """A line that drawn moves lead to."""
    for _ in range(steps if line.servers() > 1 else 0):
        server = source.randrange(line.servers() - 1)
        part = Ratio(source.randint(0, 3), 3)
        line = moved_down(line, server, room_down(line, server) * part)
        server = source.randrange(line.servers() - 1)
        line = moved_up(line, server, room_up(line, server) * part)
    return line


def no_numbers(size):
    """Values that are no list of so many numbers."""
    wrong = [value for value in odd_values() if value not in ([0] * size, (0,) * size)]
    wrong += [[0] * (size + 1), [0] * (size - 1), [0] * (size - 1) + [None], [0] * (size - 1) + ["1"]]
    wrong += [[True] + [0] * (size - 1), [[0]] * size, (0,) * (size - 1) + ((),), "0" * size, {"0": 0}]
    return wrong + [[[0] * size], [None] * size]
