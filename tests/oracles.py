"""What the document's words say directly, in Fractions, for the tests to compare with."""

import math
import random
from fractions import Fraction

from tandems.ratios import Ratio


def ways(start, end):
    """All ways from a place to another one, server and job never falling [5]."""
    if start == end:
        return [[end]]
    found = []
    for step in ((start[0] + 1, start[1]), (start[0], start[1] + 1)):
        if step[0] <= end[0] and step[1] <= end[1]:
            found.extend([[start] + way for way in ways(step, end)])
    return found


def ways_of_jobs(servers, first, last):
    """All ways from a job to another one."""
    return ways((0, first), (servers - 1, last))


def way_sum(rows, way):
    """The sum of the times at the places of a way."""
    return sum([rows[server][job] for server, job in way])


def longest_ways(rows, first, last):
    """The reach of two jobs and all ways with this length."""
    found = ways_of_jobs(len(rows), first, last)
    most = max([way_sum(rows, way) for way in found])
    return most, [way for way in found if way_sum(rows, way) == most]


def reaches_by_ways(rows):
    """For each job its reaches to itself and to all later ones."""
    jobs = len(rows[0])
    return [[longest_ways(rows, first, last)[0] for last in range(first, jobs)] for first in range(jobs)]


def serve(rows, arrivals):
    """The ends of the jobs, served one by one [4]."""
    free = [None] * len(rows)
    found = []
    for job, now in enumerate(arrivals):
        for server, times in enumerate(rows):
            if free[server] is not None and free[server] > now:
                now = free[server]
            now += times[job]
            free[server] = now
        found.append(now)
    return found


def unit_of(*lists):
    """A part of 1 of which all the numbers of these lists are multiples."""
    return Fraction(1, math.lcm(*[number.denominator for numbers in lists for number in numbers]))


def bracket(upper, lower):
    """The lone times of two neighbours and a dict of what is paired, unit by unit [7]."""
    unit = unit_of(upper, lower)
    lone, waiting, paired = [], [], {}
    for job, time in enumerate(upper):
        left = int(time / unit)
        while left and waiting:
            key = (waiting.pop(), job)
            paired[key] = paired.get(key, 0) + unit
            left -= 1
        lone.append(left * unit)
        waiting.extend([job] * int(lower[job] / unit))
    return lone, [waiting.count(job) * unit for job in range(len(lower))], paired


def move(rows, server, amount):
    """The rows behind a move, down by an amount from 0 on, up by its opposite [7]."""
    upper, lower = list(rows[server]), list(rows[server + 1])
    above, below, _ = bracket(upper, lower)
    unit = unit_of(upper, lower, [Fraction(amount)])
    for _ in range(int(abs(amount) / unit)):
        if amount > 0:
            job = max([job for job, time in enumerate(above) if time > 0])
            step, above[job] = unit, above[job] - unit
        else:
            job = min([job for job, time in enumerate(below) if time > 0])
            step, below[job] = -unit, below[job] - unit
        upper[job], lower[job] = upper[job] - step, lower[job] + step
    return rows[:server] + [upper, lower] + rows[server + 2:]


def turn(rows, server):
    """The rows behind the move that exchanges two totals [7]."""
    return move(rows, server, sum(rows[server]) - sum(rows[server + 1]))


def drawn(seed):
    """A source of draws that are the same in each run."""
    return random.Random(seed)


def drawn_times(source, jobs):
    """Times for some jobs: often 0, often parts of numbers, often equal."""
    most, bottom = source.choice([(0, 1), (1, 1), (3, 1), (3, 2), (5, 3), (9, 1)])
    return [Fraction(source.randint(0, most), source.randint(1, bottom)) for _ in range(jobs)]


def drawn_rows(source, servers, jobs):
    """The times of a line."""
    return [drawn_times(source, jobs) for _ in range(servers)]


def drawn_arrivals(source, jobs):
    """Arrivals of any order, below 0 too."""
    most = source.choice([0, 2, 10, 40])
    return [Fraction(source.randint(-most, most), source.randint(1, 3)) for _ in range(jobs)]


def ratios(numbers):
    """Fractions as numbers for the package: whole ones as integers now and then."""
    return [
        number.numerator if number.denominator == 1 and number > 1 else Ratio(number.numerator, number.denominator)
        for number in numbers
    ]


def ratio_rows(rows):
    """Lists of Fractions as lists of numbers for the package."""
    return [ratios(row) for row in rows]


def load_by_ways(rows, first, last, count):
    """The greatest sum of the places of so many ways between two jobs, by all choices of ways [6]."""
    times = {(server, job): rows[server][job] for server in range(len(rows)) for job in range(len(rows[0]))}
    unions = {frozenset()}
    for _ in range(count):
        unions = {union | set(way) for union in unions for way in ways_of_jobs(len(rows), first, last)}
    return max([sum([times[place] for place in union]) for union in unions])


def shape_by_ways(rows, first, last):
    """What one way has, two ways have more than one, and so on, as long as there are servers [6]."""
    loads = [0] + [load_by_ways(rows, first, last, count) for count in range(1, len(rows) + 1)]
    return [more - less for less, more in zip(loads, loads[1:])]


def triangle_by_ways(rows):
    """The shapes of the first job, the first two jobs, and so on [6]."""
    return [shape_by_ways(rows, 0, last) for last in range(len(rows[0]))]


def push(rows):
    """The rows behind moves down of all there is room for, from the last servers on, until there is none."""
    moved = True
    while moved:
        moved = False
        for server in reversed(range(len(rows) - 1)):
            room = sum(bracket(rows[server], rows[server + 1])[0])
            if room > 0:
                rows = move(rows, server, room)
                moved = True
    return rows


def shape_by_push(rows, first, last):
    """The totals of the pushed line of some jobs, from the last server on."""
    return [sum(row) for row in push([row[first:last + 1] for row in rows])][::-1]


def triangle_by_push(rows):
    """The shapes of the first job, the first two jobs, and so on, likewise."""
    return [shape_by_push(rows, 0, last) for last in range(len(rows[0]))]


def cover_sum(rows, first, last, count, cover):
    """The sum of a cover for so many ways, or None for a tuple that is no cover of these jobs [51]."""
    height, heights = cover
    found = height * count
    if height < 0 or [len(row) for row in heights] != [last - first + 1] * len(rows):
        return None
    for server, row in enumerate(heights):
        for index, (before, behind) in enumerate(row):
            ahead = [row[index - 1][1]] if index else []
            ahead += [heights[server - 1][index][1]] if server else []
            if not 0 <= before <= behind <= height or [other for other in ahead if other > before]:
                return None
            found += max(0, rows[server][first + index] - (behind - before))
    return found
