"""The errors of the package, all of them direct subclasses of TandemsError."""


class TandemsError(ValueError):
    """What all errors of the package are."""


class ByZero(TandemsError):
    """A quotient by 0 was asked for."""


class BadText(TandemsError):
    """A string is not the text of what was to be read."""


class Unlike(TandemsError):
    """Two lines have not equally many servers or jobs."""


class OnlyJob(TandemsError):
    """A line has no other job than the one to be taken away."""


class NothingToUndo(TandemsError):
    """A desk has no deed to take back."""


class NothingToRedo(TandemsError):
    """A desk has no deed to do again."""


class BadNumber(TandemsError):
    """A value is no number, or none that fits."""

    def __init__(self, given):
        self.given = given


class BadLine(TandemsError):
    """A value is no table of times of a line."""

    def __init__(self, given):
        self.given = given


class BadServer(TandemsError):
    """A value is no server of a line, or none that fits."""

    def __init__(self, given):
        self.given = given


class BadJob(TandemsError):
    """A value is no job of a line, or none that fits."""

    def __init__(self, given):
        self.given = given


class BadArrivals(TandemsError):
    """A value is no list of a number for each job."""

    def __init__(self, given):
        self.given = given


class BadAmount(TandemsError):
    """A value is no amount that can be moved."""

    def __init__(self, given):
        self.given = given


class BadOrder(TandemsError):
    """A value is no order of servers."""

    def __init__(self, given):
        self.given = given


class BadTotals(TandemsError):
    """A value is no list of the totals of a line in some order."""

    def __init__(self, given):
        self.given = given


class BadCount(TandemsError):
    """A value is no number of ways."""

    def __init__(self, given):
        self.given = given


class BadTriangle(TandemsError):
    """A value is the triangle of no line."""

    def __init__(self, given):
        self.given = given


class BadSides(TandemsError):
    """A value is not the sides of a line with a certain triangle."""

    def __init__(self, given):
        self.given = given


class BadPlace(TandemsError):
    """A value is no place of a line."""

    def __init__(self, given):
        self.given = given


class BadDues(TandemsError):
    """A value is no list of times at which jobs are due."""

    def __init__(self, given):
        self.given = given


class BadTimes(TandemsError):
    """A value is no list of a time for each server."""

    def __init__(self, given):
        self.given = given


class TooMany(TandemsError):
    """A line would have too many servers or jobs."""

    def __init__(self, count):
        self.count = count
