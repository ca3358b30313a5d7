"""Tables of points for the places from 1 to 5."""

from math import gcd, lcm

from anypoints.errors import InvalidNumber, InvalidPlace, InvalidPoints, InvalidTable
from anypoints.ratios import Ratio, as_ratio, is_integer, is_number

PLACES = 5


def is_place(value):
    """Whether the value is an INTEGER from 1 to 5."""
    return is_integer(value) and 1 <= value <= PLACES


def without_divisor(numbers):
    """The INTEGERS, divided by their greatest common divisor unless all are 0."""
    shared = 0
    for number in numbers:
        shared = gcd(shared, number)
    if shared == 0:
        return list(numbers)
    return [number // shared for number in numbers]


def whole_numbers(ratios):
    """The Ratios, multiplied such that they are INTEGERS without a common divisor."""
    bottom = 1
    for ratio in ratios:
        bottom = lcm(bottom, ratio.bottom)
    return without_divisor([ratio.top * (bottom // ratio.bottom) for ratio in ratios])


def whole_points(table):
    """The points of the like table without a common divisor, as INTEGERS."""
    return [point.top for point in table.reduced().points()]


def check_table(table):
    """Raises InvalidTable unless the value is a Table."""
    if not isinstance(table, Table):
        raise InvalidTable(table)


def check_many(numbers):
    """Raises InvalidPoints unless there are one to five numbers."""
    if not 1 <= len(numbers) <= PLACES:
        raise InvalidPoints(None)


def check_points(points):
    """Raises InvalidPoints unless a table can give these points."""
    check_many(points)
    for position, point in enumerate(points):
        if not is_number(point) or as_ratio(point).sign < 0:
            raise InvalidPoints(position)
        if position == 0 and as_ratio(point).sign == 0:
            raise InvalidPoints(position)
        if position > 0 and as_ratio(points[position - 1]).is_below(point):
            raise InvalidPoints(position)


def check_steps(steps):
    """Raises InvalidPoints unless a table can have these steps."""
    check_many(steps)
    for position, step in enumerate(steps):
        if not is_number(step) or as_ratio(step).sign < 0:
            raise InvalidPoints(position)
    if all([as_ratio(step).sign == 0 for step in steps]):
        raise InvalidPoints(None)


class Table:
    """Points for five places: never below 0, and never more than for the place ahead."""

    def __init__(self, *points):
        check_points(points)
        told = [as_ratio(point) for point in points]
        self._points = told + [Ratio(0) for _ in range(PLACES - len(told))]

    @classmethod
    def of_steps(cls, *steps):
        """The table with these steps; the steps that are not told are 0."""
        check_steps(steps)
        points = []
        for position in range(len(steps)):
            behind = steps[position:]
            points.append(Ratio.total(*behind))
        return cls(*points)

    @classmethod
    def first_places(cls, k):
        """The first-k table."""
        if not is_place(k):
            raise InvalidNumber(k)
        points = [1 for _ in range(k)]
        return cls(*points)

    @classmethod
    def steep(cls, s, k):
        """The steep table of s and k places."""
        if not is_integer(s) or s < 1:
            raise InvalidNumber(s)
        if not is_place(k):
            raise InvalidNumber(k)
        points = [1]
        for _ in range(k - 1):
            points = [s * points[0], *points]
        return cls(*points)

    def points(self):
        """The points of the five places, as Ratios."""
        return list(self._points)

    def steps(self):
        """For each place its points less those of the next place."""
        behind = self._points[1:] + [Ratio(0)]
        return [point - after for point, after in zip(self._points, behind)]

    def __getitem__(self, at):
        if not is_place(at):
            raise InvalidPlace(at)
        return self._points[at - 1]

    # Without this, Python would try the places from 0 on.
    def __iter__(self):
        raise TypeError("a table is not iterated over")

    @property
    def paid(self):
        """How many places the table pays."""
        return len([point for point in self._points if point.sign > 0])

    def is_like(self, other):
        """Whether one table is the other one multiplied by a number above 0."""
        check_table(other)
        return self.reduced() == other.reduced()

    def reduced(self):
        """The like table whose points are INTEGERS without a common divisor."""
        points = whole_numbers(self._points)
        return Table(*points)

    def __add__(self, other):
        check_table(other)
        points = [one + more for one, more in zip(self._points, other.points())]
        return Table(*points)

    def __mul__(self, other):
        if not is_number(other) or as_ratio(other).sign <= 0:
            raise InvalidNumber(other)
        points = [point * other for point in self._points]
        return Table(*points)

    def __rmul__(self, other):
        return self * other

    def __eq__(self, other):
        return isinstance(other, Table) and self._points == other._points

    def __repr__(self):
        told = [repr(point) for point in self._points if point.sign > 0]
        return f"Table({', '.join(told)})"
