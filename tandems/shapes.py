"""Loads of several ways, the shapes and triangles made of them, and pushed lines."""

from tandems.bundles import best_ways
from tandems.covers import cover_sum, is_heights, least_cover
from tandems.errors import BadCount
from tandems.lines import check_stretch, is_list
from tandems.moves import moved, room_down
from tandems.ratios import Ratio, is_int, total
from tandems.ways import is_way, way_length

MOST_WAYS = 6


def is_count(value):
    """Whether any value is a number of ways, an integer from 1 to 6."""
    return is_int(value) and 1 <= value <= MOST_WAYS


def check_ways(line, first, last, count):
    """Raise BadJob for what is no stretch of jobs, then BadCount for what is no number of ways."""
    check_stretch(line, first, last)
    if not is_count(count):
        raise BadCount(count)


def load(line, first, last, count):
    """The greatest sum of the times at the places of so many ways; raises BadJob, BadCount."""
    check_ways(line, first, last, count)
    return total(shape(line, first, last)[:count])


def bundle(line, first, last, count):
    """So many ways from one job to another one that have the load; raises BadJob, BadCount."""
    check_ways(line, first, last, count)
    ways = best_ways(line.part(first, last), count)
    return [[(server, first + job) for server, job in way] for way in ways]


def is_bundle(line, first, last, count, value):
    """Whether any value is so many ways that have the load; raises BadJob, BadCount."""
    most = load(line, first, last, count)
    if not is_list(value) or len(value) != count:
        return False
    return all([is_way(line, first, last, way) for way in value]) and places_sum(line, value) == most


def places_sum(line, ways):
    """The sum of the times at the places of some ways, each place counted once."""
    found = []
    for way in ways:
        for place in way:
            if place not in found:
                found.append(place)
    return way_length(line, found)


def cover(line, first, last, count):
    """A cover whose sum is the load; raises BadJob, BadCount."""
    check_ways(line, first, last, count)
    stretch = line.part(first, last)
    return least_cover(stretch, best_ways(stretch, count))


def is_cover(line, first, last, count, value):
    """Whether any value is a cover whose sum is the load; raises BadJob, BadCount."""
    most = load(line, first, last, count)
    stretch = line.part(first, last)
    return is_heights(stretch, value) and cover_sum(stretch, count, value) == most


def shape(line, first, last):
    """By how much the loads of one, two .. ways rise, as long as there are servers; raises BadJob."""
    # In a pushed line the ways that have most go along the last servers.
    return pushed(line.part(first, last)).totals()[::-1]


def triangle(line):
    """The shapes of the first job, of the first two jobs, and so on up to all."""
    return first_shapes(line)


def first_shapes(line):
    """What `triangle` tells, for files in which that is the name of an argument."""
    # The first jobs of a pushed line are a pushed line, too.
    found = pushed(line)
    return [found.part(0, last).totals()[::-1] for last in range(line.jobs())]


def pushed(line):
    """The line that moves lead to and in which no time can be moved down."""
    found = line
    for server, amount in pushing(line):
        found = moved(found, server, amount)
    return found


def is_pushed(line):
    """Whether no time of the line can be moved down."""
    return not pushing(line)


def pushing(line):
    """Moves down that lead to the pushed line, the server and the amount of each."""
    found = []
    left = line
    # All that can be moved down once at each of these is enough, as turns in these places bring
    # the servers into the opposite order.
    for last in reversed(range(line.servers())):
        for server in range(last):
            amount = room_down(left, server)
            if Ratio(0) < amount:
                found.append((server, amount))
                left = moved(left, server, amount)
    return found
