"""Exact quotients of two integers, and what counts as a number."""

from math import gcd

from tandems.errors import BadNumber, BadText, ByZero


class Ratio:
    """The quotient of two integers, kept in lowest terms with the bottom above 0."""

    def __init__(self, top, bottom=1):
        if bottom == 0:
            raise ByZero()
        shared = gcd(top, bottom)
        if bottom < 0:
            shared = -shared
        self._top = top // shared
        self._bottom = bottom // shared

    @property
    def top(self):
        """The upper number in lowest terms, which has the sign."""
        return self._top

    @property
    def bottom(self):
        """The lower number in lowest terms, above 0."""
        return self._bottom

    def __add__(self, other):
        right = as_ratio(other)
        top = self._top * right._bottom + right._top * self._bottom
        return Ratio(top, self._bottom * right._bottom)

    def __sub__(self, other):
        return self + -as_ratio(other)

    def __mul__(self, other):
        right = as_ratio(other)
        return Ratio(self._top * right._top, self._bottom * right._bottom)

    def __neg__(self):
        return Ratio(-self._top, self._bottom)

    def __eq__(self, other):
        if isinstance(other, Ratio):
            return self._top == other._top and self._bottom == other._bottom
        # True and False are ints to Python, but equal to no Ratio.
        return is_int(other) and self._top == other and self._bottom == 1

    def __lt__(self, other):
        right = as_ratio(other)
        return self._top * right._bottom < right._top * self._bottom

    def __le__(self, other):
        right = as_ratio(other)
        return self._top * right._bottom <= right._top * self._bottom

    def over(self, number):
        """The quotient by a number; raises ByZero if this is 0."""
        right = as_ratio(number)
        return Ratio(self._top * right._bottom, self._bottom * right._top)

    def text(self):
        """The top in decimal notation, and behind a `/` the bottom, if it is not 1."""
        if self._bottom == 1:
            return str(self._top)
        return f"{self._top}/{self._bottom}"


def is_int(value):
    """Whether any value is an integer: an int other than True and False."""
    return isinstance(value, int) and not isinstance(value, bool)


def is_number(value):
    """Whether any value is a number: an integer or a Ratio."""
    return isinstance(value, Ratio) or is_int(value)


def as_ratio(given):
    """The Ratio that is equal to a number; raises BadNumber for any other value."""
    if isinstance(given, Ratio):
        return given
    if not is_int(given):
        raise BadNumber(given)
    return Ratio(given)


def read_ratio(text):
    """The Ratio with a text; raises BadText for any other string."""
    top, slash, bottom = text.partition("/")
    if not slash:
        bottom = "1"
    if not is_numeral(top.removeprefix("-")) or not is_numeral(bottom):
        raise BadText()
    if int(bottom) == 0:
        raise BadText()
    ratio = Ratio(int(top), int(bottom))
    # Of all the ways to write a quotient, only its own text may be read.
    if ratio.text() != text:
        raise BadText()
    return ratio


def is_numeral(word):
    """Whether a string is one or more of the digits 0 to 9, and nothing else."""
    # Python's isdigit alone would also take digits of other scripts.
    return word.isascii() and word.isdigit()


def total(numbers):
    """The sum of a list of numbers, 0 of an empty one."""
    found = Ratio(0)
    for number in numbers:
        found = found + number
    return found


def larger(one, other):
    """The greater one of two Ratios."""
    return other if one < other else one


def smaller(one, other):
    """The lesser one of two Ratios."""
    return one if one < other else other


def least(numbers):
    """The least one of a list of Ratios that is not empty."""
    found = numbers[0]
    for number in numbers:
        found = smaller(found, number)
    return found
