"""Lines joined and split, jobs put in and struck, and what becomes of the triangles."""

from tandems.errors import BadTimes, OnlyJob, TooMany
from tandems.kin import line_of
from tandems.lines import MOST_JOBS, MOST_SERVERS, Line, check_jobs, is_list, is_time
from tandems.moves import check_server
from tandems.shapes import first_shapes, shape


def joined(one, other):
    """The servers of the one line and behind them those of the other; raises Unlike, TooMany."""
    check_jobs(one, other)
    count = one.servers() + other.servers()
    if count > MOST_SERVERS:
        raise TooMany(count)
    return Line(one.rows() + other.rows())


def split(line, server):
    """The line of the servers up to one, and that of those behind it; raises BadServer."""
    check_server(line, server)
    rows = line.rows()
    return Line(rows[:server + 1]), Line(rows[server + 1:])


def check_times(line, times):
    """Raise BadTimes for what is no time for each server, then TooMany if no job more fits."""
    if not is_list(times) or len(times) != line.servers() or not all([is_time(time) for time in times]):
        raise BadTimes(times)
    if line.jobs() == MOST_JOBS:
        raise TooMany(MOST_JOBS + 1)


def followed(line, times):
    """The line with a job more behind all others; raises BadTimes, TooMany."""
    check_times(line, times)
    return Line([row + [time] for row, time in zip(line.rows(), times)])


def headed(line, times):
    """The line with a job more ahead of all others; raises BadTimes, TooMany."""
    check_times(line, times)
    return Line([[time] + row for row, time in zip(line.rows(), times)])


def check_others(line):
    """Raise OnlyJob for a line with a single job."""
    if line.jobs() == 1:
        raise OnlyJob()


def without_last(line):
    """The line without the last job; raises OnlyJob."""
    check_others(line)
    return line.part(0, line.jobs() - 2)


def without_first(line):
    """The line without the first job; raises OnlyJob."""
    check_others(line)
    return line.part(1, line.jobs() - 1)


def back_triangle(triangle):
    """The triangle of all lines with this one, turned backwards; raises BadTriangle."""
    return first_shapes(line_of(triangle).backwards())


def struck_triangle(triangle):
    """The triangle of all lines with this one, without their first job; raises BadTriangle, OnlyJob."""
    return first_shapes(without_first(line_of(triangle)))


def stretch_shape(triangle, first, last):
    """The shape of some jobs in all lines with a triangle; raises BadTriangle, BadJob."""
    return shape(line_of(triangle), first, last)
