"""The latest arrivals with which all jobs leave in time."""

from tandems.errors import BadDues
from tandems.lines import check_arrivals, ends, is_numbers
from tandems.ratios import as_ratio, least
from tandems.ways import reaches


def check_dues(line, dues):
    """Raise BadDues for what is no list of a number for each job."""
    if not is_numbers(dues, line.jobs()):
        raise BadDues(dues)


def latest(line, dues):
    """The latest arrivals with which no end is later than its due; raises BadDues."""
    check_dues(line, dues)
    # A job must leave room for itself and for each later one.
    return [
        least([as_ratio(due) - furthest for due, furthest in zip(dues[first:], row)])
        for first, row in enumerate(reaches(line))
    ]


def keeps(line, arrivals, dues):
    """Whether no end is later than its due; raises BadArrivals, BadDues."""
    check_arrivals(line, arrivals)
    check_dues(line, dues)
    return all([end <= due for end, due in zip(ends(line, arrivals), dues)])


def is_ends(line, value):
    """Whether any value is the list of the ends for some arrivals."""
    if not is_numbers(value, line.jobs()):
        return False
    return nearest_ends(line, value) == [as_ratio(end) for end in value]


def nearest_ends(line, dues):
    """The greatest ends for some arrivals that are not later than the dues; raises BadDues."""
    return ends(line, latest(line, dues))


def rooms(line, arrivals):
    """By how much each job can come later while all ends stay; raises BadArrivals."""
    coming = latest(line, ends(line, arrivals))
    return [late - arrival for late, arrival in zip(coming, arrivals)]
