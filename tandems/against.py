"""One line against another one: which of them has the later ends, and by how much."""

from tandems.lines import check_job, check_jobs, ends, is_index, is_numbers
from tandems.ways import only_from, reach


def never_later(one, other):
    """Whether no end is ever later in the one line than in the other; raises Unlike."""
    return later_by(one, other)[0] <= 0


def shown_later(one, other):
    """Arrivals and a job whose end is later in the one line, or None; raises Unlike."""
    number, arrivals, job = later_by(one, other)
    return None if number <= 0 else (arrivals, job)


def is_later(one, other, value):
    """Whether any value is arrivals and a job whose end is later in the one line; raises Unlike."""
    check_jobs(one, other)
    if not isinstance(value, tuple) or len(value) != 2:
        return False
    arrivals, job = value
    if not is_numbers(arrivals, one.jobs()) or not is_index(job, one.jobs()):
        return False
    return ends(other, arrivals)[job] < ends(one, arrivals)[job]


def later_by(one, other):
    """By how much an end can be later in the one line, with arrivals and the job; raises Unlike."""
    found = job_later_by(one, other, 0) + (0,)
    for job in range(1, one.jobs()):
        told = job_later_by(one, other, job)
        if found[0] < told[0]:
            found = told + (job,)
    return found


def job_later_by(one, other, job):
    """By how much the end of a job can be later in the one line, with arrivals; raises Unlike, BadJob."""
    check_jobs(one, other)
    check_job(one, job)
    gaps = [reach(one, first, job) - reach(other, first, job) for first in range(job + 1)]
    best = 0
    for first, gap in enumerate(gaps):
        if gaps[best] < gap:
            best = first
    return gaps[best], only_from(one, other, best)


def by_turns(one, other, arrivals):
    """The ends in the one line less those in the other; raises Unlike, BadArrivals."""
    check_jobs(one, other)
    return [end - another for end, another in zip(ends(one, arrivals), ends(other, arrivals))]
