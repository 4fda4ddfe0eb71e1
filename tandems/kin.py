"""Kin lines, between which moves lead, and the triangles and sides that tell a line back."""

from tandems.errors import BadSides, BadTriangle
from tandems.lines import MOST_JOBS, MOST_SERVERS, Line, is_index, is_list, is_numbers
from tandems.moves import check_sizes, moved
from tandems.ratios import Ratio, as_ratio, total
from tandems.shapes import first_shapes, is_count, load, pushed, pushing, shape


def are_kin(one, other):
    """Whether moves lead from the one line to the other; raises Unlike."""
    check_sizes(one, other)
    return pushed(one) == pushed(other)


def leading(one, other):
    """Moves that lead from the one line to the other, or None if none do; raises Unlike."""
    if not are_kin(one, other):
        return None
    down, up = pushing(one), pushing(other)
    # Where both end with the same moves, they have met before these, and need not go further.
    while down and up and down[-1] == up[-1]:
        down.pop()
        up.pop()
    return down + [(server, -amount) for server, amount in up[::-1]]


def unlike_load(one, other):
    """A last job and a number of ways of unlike loads, or None for kin lines; raises Unlike."""
    check_sizes(one, other)
    for last, (numbers, others) in enumerate(zip(first_shapes(one), first_shapes(other))):
        for index, (number, another) in enumerate(zip(numbers, others)):
            # The loads of fewer ways are the same, so the first unlike number makes this one unlike.
            if number != another:
                return last, index + 1
    return None


def is_unlike_load(one, other, value):
    """Whether any value is a last job and a number of ways of unlike loads; raises Unlike."""
    check_sizes(one, other)
    if not isinstance(value, tuple) or len(value) != 2:
        return False
    last, count = value
    if not is_index(last, one.jobs()) or not is_count(count):
        return False
    return load(one, 0, last, count) != load(other, 0, last, count)


def is_triangle(value):
    """Whether any value is the triangle of some line."""
    return is_shapes(value) and first_fault(value) is None


def is_shapes(value):
    """Whether any value is a list of 1 to 6 lists with equally many numbers, 1 to 4."""
    if not is_list(value) or not 1 <= len(value) <= MOST_JOBS:
        return False
    if not is_list(value[0]) or not 1 <= len(value[0]) <= MOST_SERVERS:
        return False
    return all([is_numbers(row, len(value[0])) for row in value])


def fault(value):
    """The first job and index of a number that no triangle has there, or None; raises BadTriangle."""
    if not is_shapes(value):
        raise BadTriangle(value)
    return first_fault(value)


def first_fault(shapes):
    """The first job and index of a number out of its bounds in a list of shapes, or None."""
    ahead = [0] * len(shapes[0])
    for job, numbers in enumerate(shapes):
        for index, number in enumerate(numbers):
            if not is_between(number, index, ahead):
                return job, index
        ahead = numbers
    return None


def is_between(number, index, ahead):
    """Whether a number with an index is within the bounds that the list ahead sets for it."""
    if index < len(ahead) and as_ratio(number) < ahead[index]:
        return False
    return index == 0 or as_ratio(number) <= ahead[index - 1]


def line_of(triangle):
    """The pushed line with a triangle; raises BadTriangle."""
    if not is_triangle(triangle):
        raise BadTriangle(triangle)
    rows = []
    for index in reversed(range(len(triangle[0]))):
        numbers = [as_ratio(row[index]) for row in triangle]
        rows.append([number - ahead for ahead, number in zip([Ratio(0)] + numbers, numbers)])
    return Line(rows)


def sides(line):
    """The shapes of all jobs for the first server, the first two servers, and so on up to all."""
    rows = line.rows()
    return [shape(Line(rows[:size + 1]), 0, line.jobs() - 1) for size in range(line.servers())]


def line_by(triangle, sides):
    """The line with a triangle and with certain sides; raises BadTriangle, BadSides."""
    found = line_of(triangle)
    if not is_sides(triangle, sides):
        raise BadSides(sides)
    # In the pushed line the first servers have the least sides that can be. From the most servers
    # down, so much is moved up that the ones ahead of the last of them have theirs.
    for size in reversed(range(1, len(sides))):
        found = with_side(found, sides[size - 1])
    return found


def with_side(line, side):
    """The kin line whose first servers have this side, and are pushed, of one pushed up to the next."""
    found = line
    # These take back, the last one first, the moves down that would push the next server, too.
    for server in range(len(side)):
        more = total(side[len(side) - 1 - server:]) - total(line.totals()[:server + 1])
        found = moved(found, server, -more)
    return found


def is_sides(triangle, value):
    """Whether any value is the sides of a line with a triangle."""
    if not is_list(value) or len(value) != len(triangle[0]):
        return False
    ahead = []
    for index, row in enumerate(value):
        if not is_side(row, index + 1, ahead):
            return False
        ahead = row
    # Being those of the triangle, these numbers keep all others from 0 on, and at 0 for want of jobs.
    return [as_ratio(number) for number in ahead] == [as_ratio(number) for number in triangle[-1]]


def is_side(value, size, ahead):
    """Whether any value is a list of so many numbers, within the bounds of the list ahead."""
    return is_numbers(value, size) and all([is_between(number, index, ahead) for index, number in enumerate(value)])
