"""Lines of servers with their times for jobs, and when the jobs leave the servers."""

from tandems.errors import BadArrivals, BadJob, BadLine, BadServer, BadText, Unlike
from tandems.ratios import Ratio, as_ratio, is_int, is_number, larger, read_ratio, total

MOST_SERVERS = 4
MOST_JOBS = 6


class Line:
    """A line of 1 to 4 servers with a time at each of them for each of 1 to 6 jobs."""

    def __init__(self, rows):
        if not is_table(rows):
            raise BadLine(rows)
        self._rows = [[as_ratio(time) for time in row] for row in rows]

    @classmethod
    def read(cls, text):
        """The line with a text; raises BadText for any other string."""
        rows = [[read_ratio(word) for word in row.split(" ")] for row in text.split("\n")]
        if not is_table(rows):
            raise BadText()
        return cls(rows)

    def __eq__(self, other):
        return isinstance(other, Line) and self._rows == other._rows

    def servers(self):
        """The number of the servers."""
        return len(self._rows)

    def jobs(self):
        """The number of the jobs."""
        return len(self._rows[0])

    def rows(self):
        """The times, a list for each server."""
        return [list(row) for row in self._rows]

    def totals(self):
        """The totals of the servers."""
        return [total(row) for row in self._rows]

    def sums(self):
        """The sums of the jobs."""
        return [total([row[job] for row in self._rows]) for job in range(self.jobs())]

    def time(self, server, job):
        """The time of a server for a job; raises BadServer and BadJob."""
        if not is_index(server, self.servers()):
            raise BadServer(server)
        check_job(self, job)
        return self._rows[server][job]

    def text(self):
        """The texts of the times, with blanks between jobs and line feeds between servers."""
        return "\n".join([" ".join([time.text() for time in row]) for row in self._rows])

    def part(self, first, last):
        """The line of the jobs from the first to the last one; raises BadJob."""
        check_stretch(self, first, last)
        return Line([row[first:last + 1] for row in self._rows])

    def backwards(self):
        """The line with servers and jobs the other way round, both."""
        return Line([row[::-1] for row in self._rows[::-1]])


def is_list(value):
    """Whether any value may be passed where a list is expected."""
    return isinstance(value, (list, tuple))


def is_numbers(value, size):
    """Whether any value is a list of so many numbers."""
    return is_list(value) and len(value) == size and all([is_number(item) for item in value])


def is_time(value):
    """Whether any value is a number from 0 on."""
    return is_number(value) and Ratio(0) <= value


def is_table(value):
    """Whether any value is the list of the lists of times of a line."""
    if not is_list(value) or not 1 <= len(value) <= MOST_SERVERS:
        return False
    return all([is_row(row) for row in value]) and all([len(row) == len(value[0]) for row in value])


def is_row(value):
    """Whether any value is a list of the times of a server."""
    return is_list(value) and 1 <= len(value) <= MOST_JOBS and all([is_time(item) for item in value])


def is_index(value, size):
    """Whether any value is an integer from 0 on and below a size."""
    return is_int(value) and 0 <= value < size


def is_place(line, value):
    """Whether any value is a tuple of a server and a job of a line."""
    if not isinstance(value, tuple) or len(value) != 2:
        return False
    return is_index(value[0], line.servers()) and is_index(value[1], line.jobs())


def places(line):
    """All places of a line, ascending."""
    return [(server, job) for server in range(line.servers()) for job in range(line.jobs())]


def check_job(line, job):
    """Raise BadJob for what is no job of a line."""
    if not is_index(job, line.jobs()):
        raise BadJob(job)


def check_stretch(line, first, last):
    """Raise BadJob for what is no job of a line, or for a last one ahead of the first one."""
    check_job(line, first)
    if not is_index(last, line.jobs()) or last < first:
        raise BadJob(last)


def check_jobs(one, other):
    """Raise Unlike for two lines that have not equally many jobs."""
    if one.jobs() != other.jobs():
        raise Unlike()


def check_arrivals(line, arrivals):
    """Raise BadArrivals for what is no list of a number for each job."""
    if not is_numbers(arrivals, line.jobs()):
        raise BadArrivals(arrivals)


def leavings(line, arrivals):
    """When each job leaves each server, a list for each server; raises BadArrivals."""
    check_arrivals(line, arrivals)
    found = []
    coming = [as_ratio(arrival) for arrival in arrivals]
    for times in line.rows():
        coming = served(coming, times)
        found.append(coming)
    return found


def served(coming, times):
    """When each job leaves a server, of when it comes to it and its time there."""
    found = []
    # The first job never waits: for it the server is free when it comes.
    free = coming[0]
    for came, time in zip(coming, times):
        free = larger(free, came) + time
        found.append(free)
    return found


def ends(line, arrivals):
    """When each job leaves the last server; raises BadArrivals."""
    return leavings(line, arrivals)[-1]
