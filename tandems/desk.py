"""A live desk: a line and arrivals, changed by deeds that can be taken back."""

from tandems.errors import BadAmount, BadText, NothingToRedo, NothingToUndo
from tandems.joins import followed, without_first
from tandems.kin import are_kin
from tandems.lates import rooms
from tandems.lines import Line, check_arrivals, ends
from tandems.moves import check_server, moved, room_down, room_up
from tandems.ratios import Ratio, as_ratio, is_number, read_ratio
from tandems.shapes import triangle
from tandems.slacks import needed, with_time
from tandems.turns import turned

WORD = "arrivals "


class Desk:
    """A line and arrivals with the deeds done to them, and those taken back."""

    def __init__(self, line):
        self._line = line
        self._arrivals = [Ratio(0)] * line.jobs()
        self._start = line
        # What the desk had ahead of each deed, and what it had behind each one taken back.
        self._done = []
        self._undone = []

    def __len__(self):
        return len(self._done)

    def set_time(self, place, time):
        """Give a place another time; raises BadPlace, BadNumber."""
        self._become(with_time(self._line, place, time), self._arrivals)

    def arrive(self, arrivals):
        """Tell all arrivals anew; raises BadArrivals."""
        check_arrivals(self._line, arrivals)
        self._become(self._line, [as_ratio(arrival) for arrival in arrivals])

    def move(self, server, amount):
        """Move time down from a server, or up by an amount below 0; raises BadServer, BadAmount."""
        check_server(self._line, server)
        if not is_number(amount) or room_down(self._line, server) < amount:
            raise BadAmount(amount)
        if as_ratio(amount) < -room_up(self._line, server):
            raise BadAmount(amount)
        self._become(moved(self._line, server, as_ratio(amount)), self._arrivals)

    def turn(self, server):
        """Turn a server and the next one; raises BadServer."""
        self._become(turned(self._line, server), self._arrivals)

    def follow(self, times, arrival):
        """Put a job behind all others; raises BadTimes, TooMany, BadNumber."""
        line = followed(self._line, times)
        self._become(line, self._arrivals + [as_ratio(arrival)])

    def strike(self):
        """Take the first job away; raises OnlyJob."""
        self._become(without_first(self._line), self._arrivals[1:])

    def _become(self, line, arrivals):
        """Have a line and arrivals by a new deed, behind which nothing can be done again."""
        self._done.append((self._line, self._arrivals))
        self._undone.clear()
        self._line, self._arrivals = line, arrivals

    def line(self):
        """The line that the desk has."""
        return self._line

    def arrivals(self):
        """The arrivals that the desk has."""
        return list(self._arrivals)

    def ends(self):
        """The ends of the jobs."""
        return ends(self._line, self._arrivals)

    def rooms(self):
        """By how much each job can come later while all ends stay."""
        return rooms(self._line, self._arrivals)

    def triangle(self):
        """The triangle of the line."""
        return triangle(self._line)

    def is_steady(self):
        """Whether the line is kin to the one that the desk began with."""
        return self._line.jobs() == self._start.jobs() and are_kin(self._line, self._start)

    def needed(self, job):
        """The places where each lesser time makes the end of a job earlier; raises BadJob."""
        return needed(self._line, self._arrivals, job)

    def undo(self):
        """Take the last deed back; raises NothingToUndo."""
        if not self._done:
            raise NothingToUndo()
        self._undone.append((self._line, self._arrivals))
        self._line, self._arrivals = self._done.pop()

    def redo(self):
        """Do the deed again that was taken back last; raises NothingToRedo."""
        if not self._undone:
            raise NothingToRedo()
        self._done.append((self._line, self._arrivals))
        self._line, self._arrivals = self._undone.pop()

    def tried(self, act):
        """What a function returns that is called with this desk, which is then as before."""
        line, arrivals = self._line, self._arrivals
        done, undone = self._done, self._undone
        # The function gets copies to change, so that the lists themselves can be put back.
        self._done, self._undone = list(done), list(undone)
        try:
            return act(self)
        finally:
            self._line, self._arrivals = line, arrivals
            self._done, self._undone = done, undone

    def twin(self):
        """Another desk, without deeds, that begins with what this one has."""
        return desk_with(self._line, self._arrivals)

    def text(self):
        """The text of the line, and in a last row that of the arrivals."""
        return self._line.text() + "\n" + WORD + " ".join([arrival.text() for arrival in self._arrivals])


def desk_with(line, arrivals):
    """A desk without deeds that begins with a line and with Ratios as arrivals."""
    found = Desk(line)
    found._arrivals = arrivals
    return found


def read_desk(text):
    """The desk without deeds that has a text; raises BadText for any other string."""
    rows, _, row = text.rpartition("\n")
    line = Line.read(rows)
    if not row.startswith(WORD):
        raise BadText()
    arrivals = [read_ratio(word) for word in row.removeprefix(WORD).split(" ")]
    if len(arrivals) != line.jobs():
        raise BadText()
    return desk_with(line, arrivals)
