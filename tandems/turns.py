"""Turns of two neighbouring servers, and the orders into which they bring the servers."""

from tandems.errors import BadOrder, BadTotals
from tandems.lines import MOST_SERVERS, is_index, is_list, is_numbers
from tandems.moves import check_server, moved


def turned(line, server):
    """The line behind a turn of a server and the next one; raises BadServer."""
    check_server(line, server)
    totals = line.totals()
    return moved(line, server, totals[server] - totals[server + 1])


def is_order(value):
    """Whether any value is a list of all servers of some line, each once."""
    if not is_list(value) or not 1 <= len(value) <= MOST_SERVERS:
        return False
    servers = range(len(value))
    # True and a Ratio of 1 would be found as 1, so all items must be known as integers first.
    return all([is_index(item, len(value)) for item in value]) and all([server in value for server in servers])


def served_in(line, order):
    """The line with its servers brought into an order by turns; raises BadOrder."""
    if not is_order(order) or len(order) != line.servers():
        raise BadOrder(order)
    found = line
    for server in steps_to(order):
        found = turned(found, server)
    return found


def steps_to(order):
    """As few turns as can be that bring servers into an order; raises BadOrder."""
    if not is_order(order):
        raise BadOrder(order)
    standing = list(range(len(order)))
    found = []
    for goal, server in enumerate(order):
        # It passes only servers that are to stand behind it, so that no turn is undone later.
        start = standing.index(server)
        found.extend(list(reversed(range(goal, start))))
        standing.remove(server)
        standing.insert(goal, server)
    return found


def by_totals(line, totals):
    """The line behind turns whose servers have certain totals; raises BadTotals."""
    if not is_numbers(totals, line.servers()):
        raise BadTotals(totals)
    held = line.totals()
    order = []
    for wanted in totals:
        fitting = [server for server in range(len(held)) if held[server] == wanted and server not in order]
        if not fitting:
            raise BadTotals(totals)
        order.append(fitting[0])
    return served_in(line, order)


def risen(line):
    """The line behind turns in which no total is less than the one ahead."""
    found = line
    for last in reversed(range(line.servers())):
        for server in range(last):
            totals = found.totals()
            if totals[server + 1] < totals[server]:
                found = turned(found, server)
    return found


def is_risen(line):
    """Whether no server has a lesser total than the one ahead of it."""
    return risen(line) == line
