"""Planes: the tables that pay at most three places as points, and for each rider those by which the rider is first."""

from math import lcm

from anypoints.charts import check_chart, gap_row, rivals_of
from anypoints.errors import InvalidFamily, InvalidPoint
from anypoints.families import STEP_ROWS, check_family, cut_by_all
from anypoints.ratios import Ratio, as_ratio, is_number
from anypoints.seasons import check_rider
from anypoints.standings import standing
from anypoints.tables import Table

MOST_PAID = 3


def side_of(first, last, point):
    """Above 0 if the point lies to the left of the way from the first to the last one, below 0 to its right."""
    across = (last[0] - first[0]) * (point[1] - first[1])
    return across - (last[1] - first[1]) * (point[0] - first[0])


def around(points):
    """The corners, pairs of INTEGERS, counter-clockwise from the least one."""
    row = sorted(points)
    low = [point for point in row if side_of(row[0], row[-1], point) <= 0]
    high = [point for point in row if side_of(row[0], row[-1], point) > 0]
    return low + high[::-1]


def points_around(rows):
    """The points of the tables with these points for their places, counter-clockwise from the least one."""
    bottom = 1
    for row in rows:
        bottom = lcm(bottom, row[0])
    # Over one bottom the points are INTEGERS, which can be sorted.
    whole = [(row[1] * (bottom // row[0]), row[2] * (bottom // row[0])) for row in rows]
    return [(Ratio(x, bottom), Ratio(y, bottom)) for x, y in around(whole)]


def doubled_area(points):
    """Twice the area within the corners, which are told counter-clockwise."""
    ahead = points[1:] + points[:1]
    parts = [one[0] * other[1] - other[0] * one[1] for one, other in zip(points, ahead)]
    return Ratio.total(*parts)


def is_pair(value):
    """Whether the value is a tuple of two NUMBERS."""
    return isinstance(value, tuple) and len(value) == 2 and all([is_number(number) for number in value])


class Plane:
    """The points of the tables of a family, parted into the regions of the riders of a chart."""

    def __init__(self, chart, family):
        check_chart(chart)
        check_family(family)
        if family.paid > MOST_PAID:
            raise InvalidFamily(family)
        self._chart = chart
        self._family = family

    def hull(self):
        """The corners of what all tables of the family make."""
        return points_around(self._family.corner_points())

    def region(self, rider):
        """The corners of what the tables make by which the rider is first."""
        check_rider(rider, self._chart)
        kept = list(STEP_ROWS) + self._family.sayings()
        rows = [gap_row(self._chart, rider, rival) for rival in rivals_of(self._chart, rider)]
        return points_around(cut_by_all(self._family.corner_points(), kept, rows))

    def share(self, rider):
        """The part of the hull's area that the rider's region has, or None if the hull has none."""
        region = self.region(rider)
        hull = self.hull()
        if len(hull) < 3:
            return None
        return doubled_area(region).over(doubled_area(hull))

    def __contains__(self, x):
        if not is_pair(x):
            return False
        points = [Ratio(1), as_ratio(x[0]), as_ratio(x[1]), Ratio(0)]
        if any([one.is_below(other) for one, other in zip(points, points[1:])]):
            return False
        return Table(1, x[0], x[1]) in self._family

    def table_at(self, point):
        """The table with this point and 1 for the place 1."""
        if point not in self:
            raise InvalidPoint(point)
        return Table(1, point[0], point[1])

    def leaders(self, point):
        """The riders that are first by the table at the point, sorted."""
        return standing(self._chart, self.table_at(point))[0]

    def __eq__(self, other):
        if not isinstance(other, Plane) or self._chart != other._chart:
            return False
        return self._family.is_same(other._family)
