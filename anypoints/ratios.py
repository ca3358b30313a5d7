"""Exact numbers, and which values count as integers, counts, numbers, names and lists."""

from math import gcd

from anypoints.errors import DividedByZero, InvalidNumber

LETTERS = "abcdefghijklmnopqrstuvwxyz"
LONGEST_NAME = 8


def is_integer(value):
    """Whether the value is an INTEGER; True and False are none."""
    return isinstance(value, int) and not isinstance(value, bool)


def is_count(value):
    """Whether the value is a COUNT."""
    return is_integer(value) and value >= 0


def is_number(value):
    """Whether the value is a NUMBER."""
    return is_integer(value) or isinstance(value, Ratio)


def is_name(value):
    """Whether the value is a NAME."""
    if not isinstance(value, str) or not 1 <= len(value) <= LONGEST_NAME:
        return False
    return all([letter in LETTERS for letter in value])


def is_list(value):
    """Whether the value is a list, or a tuple, which is accepted in its place."""
    return isinstance(value, (list, tuple))


def check_count(value):
    """Raises InvalidNumber unless the value is a COUNT."""
    if not is_count(value):
        raise InvalidNumber(value)


def as_ratio(value):
    """The NUMBER as a Ratio."""
    if isinstance(value, Ratio):
        return value
    return Ratio(value)


def sign_of(number):
    """-1, 0 or 1, as the NUMBER is below, at or above 0."""
    return as_ratio(number).sign


class Ratio:
    """A fraction in lowest terms, its bottom at least 1."""

    def __init__(self, top, bottom=1):
        if not is_integer(top):
            raise InvalidNumber(top)
        if not is_integer(bottom) or bottom == 0:
            raise InvalidNumber(bottom)
        shared = gcd(top, bottom)
        # A divisor below 0 moves the sign from the bottom to the top.
        if bottom < 0:
            shared = -shared
        self._top = top // shared
        self._bottom = bottom // shared

    @property
    def top(self):
        """The number above the line."""
        return self._top

    @property
    def bottom(self):
        """The number below the line, at least 1."""
        return self._bottom

    @property
    def sign(self):
        """-1, 0 or 1, as the Ratio is below, at or above 0."""
        if self._top < 0:
            return -1
        if self._top > 0:
            return 1
        return 0

    @classmethod
    def total(cls, *numbers):
        """The sum of the NUMBERS."""
        found = cls(0)
        for number in numbers:
            found = found + number
        return found

    def __add__(self, other):
        right = as_ratio(other)
        top = self._top * right.bottom + right.top * self._bottom
        return Ratio(top, self._bottom * right.bottom)

    def __radd__(self, other):
        return self + other

    def __sub__(self, other):
        return self + -as_ratio(other)

    def __rsub__(self, other):
        return -self + other

    def __mul__(self, other):
        right = as_ratio(other)
        return Ratio(self._top * right.top, self._bottom * right.bottom)

    def __rmul__(self, other):
        return self * other

    def __neg__(self):
        return Ratio(-self._top, self._bottom)

    def over(self, other):
        """The Ratio divided by the NUMBER other."""
        right = as_ratio(other)
        if right.sign == 0:
            raise DividedByZero()
        return Ratio(self._top * right.bottom, self._bottom * right.top)

    def is_below(self, other):
        """Whether the Ratio is less than the NUMBER other."""
        return (self - other).sign < 0

    def __eq__(self, other):
        return isinstance(other, Ratio) and self._top == other._top and self._bottom == other._bottom

    def __str__(self):
        if self._bottom == 1:
            return str(self._top)
        return f"{self._top}/{self._bottom}"

    def __repr__(self):
        return f"Ratio({self._top}, {self._bottom})"
