"""Times of two neighbouring servers, paired or lone, and the moves of lone ones."""

from tandems.errors import BadAmount, BadServer, Unlike
from tandems.lines import Line, is_index, is_time
from tandems.ratios import Ratio, as_ratio, smaller, total


def check_server(line, server):
    """Raise BadServer for what is no server of a line with another one behind it."""
    if not is_index(server, line.servers() - 1):
        raise BadServer(server)


def check_sizes(one, other):
    """Raise Unlike for two lines that have not equally many servers and equally many jobs."""
    if one.servers() != other.servers() or one.jobs() != other.jobs():
        raise Unlike()


def brackets(line, server):
    """The lone times of a server and of the next one, and a dict of what is paired."""
    rows = line.rows()
    upper, lower = rows[server], rows[server + 1]
    paired = {}
    for later in range(line.jobs()):
        for job in reversed(range(later)):
            amount = smaller(upper[later], lower[job])
            if Ratio(0) < amount:
                upper[later] = upper[later] - amount
                lower[job] = lower[job] - amount
                paired[job, later] = amount
    return upper, lower, paired


def lone(line, server):
    """The lone times of a server and of the next one, by jobs; raises BadServer."""
    check_server(line, server)
    return brackets(line, server)[:2]


def pairs(line, server):
    """How much of the next server's time for a job is paired with a later one; raises BadServer."""
    check_server(line, server)
    paired = brackets(line, server)[2]
    jobs = range(line.jobs())
    return [(job, later, paired[job, later]) for job in jobs for later in jobs if (job, later) in paired]


def room_down(line, server):
    """The greatest amount that can be moved down; raises BadServer."""
    return total(lone(line, server)[0])


def room_up(line, server):
    """The greatest amount that can be moved up; raises BadServer."""
    return total(lone(line, server)[1])


def check_amount(amount, room):
    """Raise BadAmount for what is no number from 0 to the room."""
    if not is_time(amount) or room < amount:
        raise BadAmount(amount)


def moved_down(line, server, amount):
    """The line behind a move down by an amount; raises BadServer, BadAmount."""
    check_amount(amount, room_down(line, server))
    return moved(line, server, as_ratio(amount))


def moved_up(line, server, amount):
    """The line behind a move up by an amount; raises BadServer, BadAmount."""
    check_amount(amount, room_up(line, server))
    return moved(line, server, -as_ratio(amount))


def moved(line, server, amount):
    """The line behind a move as far as there is room, down by a Ratio, or up by one below 0."""
    upper, lower = lone(line, server)
    if amount < 0:
        given = [-part for part in taken(lower, -amount)]
    else:
        given = taken(upper[::-1], amount)[::-1]
    rows = line.rows()
    rows[server] = [time - part for time, part in zip(rows[server], given)]
    rows[server + 1] = [time + part for time, part in zip(rows[server + 1], given)]
    return Line(rows)


def taken(times, amount):
    """How much of each time is taken to make up an amount, of the first ones first."""
    found = []
    left = amount
    for time in times:
        part = smaller(time, left)
        found.append(part)
        left = left - part
    return found


def is_moved(one, other, server):
    """Whether a move at a server, or none, leads to the other line; raises Unlike, BadServer."""
    check_sizes(one, other)
    check_server(one, server)
    # Only this amount brings the server to its total in the other line, if there is room for it.
    amount = one.totals()[server] - other.totals()[server]
    return moved(one, server, amount) == other
