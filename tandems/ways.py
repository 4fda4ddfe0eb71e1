"""Ways through a line, and the ends of the jobs as the longest ways tell them."""

from tandems.lines import check_jobs, ends, is_list, is_numbers, is_place, leavings
from tandems.ratios import Ratio, as_ratio, larger, total


def reach(line, first, last):
    """The greatest length of a way from one job to another one; raises BadJob."""
    return reaches_of_first(line.part(first, last))[-1]


def reaches_of_first(line):
    """The reaches of the first job to itself and to all later ones."""
    # With arrivals of 0 an end is the length of a longest way from any job; as no time is below 0,
    # none of the ways from later jobs is longer than the ones from the first job.
    return ends(line, [0] * line.jobs())


def reaches_from(line, first):
    """The reaches of a job to itself and to all later ones."""
    return reaches_of_first(line.part(first, line.jobs() - 1))


def reaches(line):
    """The reaches of each job to itself and to all later ones."""
    return [reaches_from(line, first) for first in range(line.jobs())]


def longest(line, first, last):
    """A way from one job to another one with the greatest length; raises BadJob."""
    stretch = line.part(first, last)
    table = leavings(stretch, [0] * stretch.jobs())
    server, job = stretch.servers() - 1, stretch.jobs() - 1
    found = [(server, first + job)]
    while server > 0 or job > 0:
        # The job began here when the later one of two ended: its own service ahead of this one,
        # or that of the job ahead; so the longest way comes from there.
        if job > 0 and (server == 0 or table[server - 1][job] < table[server][job - 1]):
            job -= 1
        else:
            server -= 1
        found.append((server, first + job))
    return found[::-1]


def is_longest(line, first, last, value):
    """Whether any value is a longest way from one job to another one; raises BadJob."""
    furthest = reach(line, first, last)
    return is_way(line, first, last, value) and way_length(line, value) == furthest


def is_way(line, first, last, value):
    """Whether any value is a way from one job of a line to another one."""
    if not is_list(value) or len(value) == 0 or not all([is_place(line, place) for place in value]):
        return False
    if value[0] != (0, first) or value[-1] != (line.servers() - 1, last):
        return False
    return all([is_step(ahead, behind) for ahead, behind in zip(value, value[1:])])


def is_step(ahead, behind):
    """Whether a place may stand behind another one in a way."""
    server, job = ahead
    return behind == (server, job + 1) or behind == (server + 1, job)


def way_length(line, way):
    """The sum of the times at the places of a way."""
    return total([line.time(server, job) for server, job in way])


def told_by(line, arrivals):
    """The end of each job and the least job that tells it; raises BadArrivals."""
    told = ends(line, arrivals)
    coming = [as_ratio(arrival) for arrival in arrivals]
    table = reaches(line)
    return [(end, first_teller(coming, table, job, end)) for job, end in enumerate(told)]


def first_teller(coming, table, job, end):
    """The least job whose arrival and reach to a job sum to the end of this one."""
    tellers = [first for first in range(job + 1) if coming[first] + table[first][job - first] == end]
    return tellers[0]


def alike(one, other):
    """Whether two lines have the same ends for all arrivals; raises Unlike."""
    check_jobs(one, other)
    return reaches(one) == reaches(other)


def parting(one, other):
    """Arrivals with which the ends are unlike, or None if there are none; raises Unlike."""
    check_jobs(one, other)
    for first in range(one.jobs()):
        if reaches_from(one, first) != reaches_from(other, first):
            return only_from(one, other, first)
    return None


def only_from(one, other, first):
    """Arrivals with which the ends of a job and the later ones are its reaches, in two lines."""
    # So early that no way from another job is any longer than a wait for this one, at 0.
    early = -larger(reaches_from(one, 0)[-1], reaches_from(other, 0)[-1])
    return [Ratio(0) if job == first else early for job in range(one.jobs())]


def is_parting(one, other, value):
    """Whether any value is arrivals with which some ends are unlike; raises Unlike."""
    check_jobs(one, other)
    return is_numbers(value, one.jobs()) and ends(one, value) != ends(other, value)
