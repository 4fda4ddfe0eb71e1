"""Covers: heights before and behind each place that tell how much ways can have at most."""

from tandems.lines import is_list, is_time, places
from tandems.ratios import Ratio, as_ratio, is_number, total

BEFORE = 0
BEHIND = 1


def least_cover(line, ways):
    """A cover of all jobs whose sum is that of the times at the places of the ways, a load."""
    heights = {(server, job, side): Ratio(0) for server, job in places(line) for side in (BEFORE, BEHIND)}
    rules = place_rules(line, ways) + step_rules(line, ways)
    rising = True
    # It comes to an end because the ways have the load: else they could be exchanged for others,
    # with more time, along rules that raise one another in a ring.
    while rising:
        rising = False
        for low, high, gain in rules:
            if heights[high] < heights[low] + gain:
                heights[high] = heights[low] + gain
                rising = True
    rows = [
        [(heights[server, job, BEFORE], heights[server, job, BEHIND]) for job in range(line.jobs())]
        for server in range(line.servers())
    ]
    return rows[-1][-1][1], rows


def place_rules(line, ways):
    """What the heights at each place must keep: tuples of a lower one, a higher one, the gain."""
    found = []
    for server, job in places(line):
        before, behind = (server, job, BEFORE), (server, job, BEHIND)
        passing = len([way for way in ways if (server, job) in way])
        # Of a place without ways nothing may be left over, and of one with a single way nothing
        # may be wanting; one with several ways counts once for all, so the others rise by nothing.
        if passing == 0:
            found.append((before, behind, line.time(server, job)))
        else:
            found.append((before, behind, Ratio(0)))
            found.append((behind, before, -line.time(server, job) if passing == 1 else Ratio(0)))
    return found


def step_rules(line, ways):
    """What the heights on both sides of each step must keep, likewise."""
    taken = {step for way in ways for step in zip(way, way[1:])}
    found = []
    for server, job in places(line):
        for after in ((server, job + 1), (server + 1, job)):
            if after[0] < line.servers() and after[1] < line.jobs():
                behind, before = (server, job, BEHIND), (after[0], after[1], BEFORE)
                found.append((behind, before, Ratio(0)))
                # A way that takes the step must lose nothing of the height between two places.
                if ((server, job), after) in taken:
                    found.append((before, behind, Ratio(0)))
    return found


def is_heights(line, value):
    """Whether any value is a cover of all jobs of a line, whatever its sum is."""
    if not isinstance(value, tuple) or len(value) != 2:
        return False
    height, rows = value
    if not is_time(height) or not is_list(rows) or len(rows) != line.servers():
        return False
    return all([is_spans(row, line.jobs(), height) for row in rows]) and is_rising(line, rows)


def is_spans(value, size, height):
    """Whether any value is a list of so many tuples of two numbers that rise, none above a height."""
    return is_list(value) and len(value) == size and all([is_span(item, height) for item in value])


def is_span(value, height):
    """Whether any value is a tuple of two numbers that rise, from 0 to a height."""
    if not isinstance(value, tuple) or len(value) != 2:
        return False
    before, behind = value
    if not is_time(before) or not is_number(behind):
        return False
    return as_ratio(before) <= behind and as_ratio(behind) <= height


def is_rising(line, rows):
    """Whether no place has less before it than what is behind a place ahead of it."""
    for server, job in places(line):
        for ahead in ((server - 1, job), (server, job - 1)):
            if ahead[0] >= 0 and ahead[1] >= 0:
                if as_ratio(rows[server][job][0]) < rows[ahead[0]][ahead[1]][1]:
                    return False
    return True


def cover_sum(line, count, cover):
    """The sum of a cover of all jobs of a line, for so many ways."""
    height, rows = cover
    return as_ratio(height) * count + total([left_over(line, place, rows) for place in places(line)])


def left_over(line, place, rows):
    """By how much the time at a place is greater than the difference of its two numbers, or 0."""
    server, job = place
    before, behind = rows[server][job]
    left = line.time(server, job) + before - behind
    return left if Ratio(0) < left else Ratio(0)
