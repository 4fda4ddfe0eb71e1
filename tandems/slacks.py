"""What the ends of the jobs become with one time more or less."""

from tandems.errors import BadNumber, BadPlace
from tandems.lines import Line, check_arrivals, check_job, check_stretch, is_place, is_time, leavings, places
from tandems.ratios import Ratio, larger
from tandems.ways import reach


def check_place(line, place):
    """Raise BadPlace for what is no place of a line."""
    if not is_place(line, place):
        raise BadPlace(place)


def with_time(line, place, time):
    """The line with another time at a place; raises BadPlace, BadNumber."""
    check_place(line, place)
    if not is_time(time):
        raise BadNumber(time)
    server, job = place
    rows = line.rows()
    rows[server][job] = time
    return Line(rows)


def through(line, first, last, place):
    """The greatest length of a way that has a place, or None if none has; raises BadJob, BadPlace."""
    check_stretch(line, first, last)
    check_place(line, place)
    server, job = place
    if not first <= job <= last:
        return None
    # What leads up to the place and what leads on from it both have its time.
    ahead = reach(Line(line.rows()[:server + 1]), first, job)
    return ahead + from_place(line, place, last) - line.time(server, job)


def from_place(line, place, last):
    """The greatest sum of the times at the places from one on to the end of a way to a job."""
    server, job = place
    return reach(Line(line.rows()[server:]), job, last)


def bend(line, arrivals, place, job):
    """The end with a time of 0 and the greatest time that keeps it; raises BadArrivals, BadPlace, BadJob."""
    check_arrivals(line, arrivals)
    check_place(line, place)
    check_job(line, job)
    if job < place[1]:
        return None
    without = with_time(line, place, 0)
    table = leavings(without, arrivals)
    floor = table[-1][job]
    # The end is at least what the ways through the place tell, which rises with its time.
    return floor, floor - table[place[0]][place[1]] - from_place(without, place, job)


def slack(line, arrivals, place):
    """By how much the time at a place can be more for each end; raises BadArrivals, BadPlace."""
    check_arrivals(line, arrivals)
    check_place(line, place)
    time = line.time(place[0], place[1])
    bends = [bend(line, arrivals, place, job) for job in range(line.jobs())]
    return [None if told is None else larger(told[1] - time, Ratio(0)) for told in bends]


def needed(line, arrivals, job):
    """The places where each lesser time makes an end earlier; raises BadArrivals, BadJob."""
    check_arrivals(line, arrivals)
    check_job(line, job)
    return [place for place in places(line) if is_needed(line, arrivals, place, job)]


def is_needed(line, arrivals, place, job):
    """Whether each lesser time at a place makes the end of a job earlier."""
    told = bend(line, arrivals, place, job)
    return told is not None and told[1] < line.time(place[0], place[1])
