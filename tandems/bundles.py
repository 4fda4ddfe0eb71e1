"""So many ways between the first and the last job of a line that have the load together."""

from tandems.ratios import total


def best_ways(line, count):
    """So many ways from the first job to the last one with as much time as can be together."""
    # As many ways as there are servers have all places, and further ones add nothing.
    several = count if count < line.servers() else line.servers()
    fronts = best_fronts(line, several)
    ways = [way_of(fronts, index) for index in range(several)]
    return ways + [list(ways[-1]) for _ in range(several, count)]


def way_of(fronts, index):
    """The way that has the servers with an index in the fronts."""
    return [(front[index], step - front[index]) for step, front in enumerate(fronts)]


def best_fronts(line, count):
    """For each step of the ways the front: the server of each way, never falling."""
    # All places that a step leads to have the same sum of server and job. Where ways cross, they
    # can be exchanged from there on and have the same places, so fronts need never fall.
    front = (0,) * count
    best = {front: (gain_of(line, front, 0), [front])}
    for step in range(1, line.servers() + line.jobs() - 1):
        best = stepped(line, best, step)
    return best[(line.servers() - 1,) * count][1]


def stepped(line, best, step):
    """The greatest gain, and the fronts with it, for each front after a further step."""
    ahead = {}
    for front, (gain, fronts) in best.items():
        for after in fronts_after(line, front, step):
            if after not in ahead or ahead[after][0] < gain:
                ahead[after] = (gain, fronts)
    return {
        after: (so_far + gain_of(line, after, step), passed + [after])
        for after, (so_far, passed) in ahead.items()
    }


def fronts_after(line, front, step):
    """The fronts to which a step leads from a front, each way to the next job or server."""
    found = [()]
    for server in front:
        found = [
            begun + (after,) for begun in found for after in (server, server + 1)
            if is_within(line, after, step) and (not begun or begun[-1] <= after)
        ]
    return found


def is_within(line, server, step):
    """Whether a line has a place at a server to which a step leads."""
    return server < line.servers() and 0 <= step - server < line.jobs()


def gain_of(line, front, step):
    """The times at the places of a front, each place counted once."""
    once = [server for index, server in enumerate(front) if server not in front[:index]]
    return total([line.time(server, step - server) for server in once])
