"""Parting: the tables by which two charts do not say the same."""

from anypoints.charts import check_chart, gap_row
from anypoints.families import check_family, meeting, worth
from anypoints.ratios import sign_of
from anypoints.seasons import check_rider, check_same_riders
from anypoints.tables import Table, whole_points


def check_charts(chart, other, family):
    """Raises an error unless these are two charts and a family."""
    check_chart(chart)
    check_chart(other)
    check_family(family)


def check_like_charts(chart, other, family):
    """Raises an error unless these are two charts of the same riders and a family."""
    check_charts(chart, other, family)
    check_same_riders(chart, other)


def check_in_both(rider, chart, other):
    """Raises UnknownRider unless the value is a rider of both charts."""
    check_rider(rider, chart)
    check_rider(rider, other)


def points_to_try(corners, row):
    """The corners, and between any two on both sides of the row the points for which it is 0."""
    above = [points for points in corners if worth(row, points) > 0]
    below = [points for points in corners if worth(row, points) < 0]
    return corners + [meeting(one, other, row) for one in above for other in below]


def do_part(row, moved, points):
    """Whether by the points the two rows of gaps are not on the same side of 0."""
    return sign_of(worth(row, points)) != sign_of(worth(moved, points))


def parting_points(corners, row, moved):
    """Points that part the two rows of gaps, or None."""
    # Rows that have the same signs at all corners can differ only where one of them is 0 between two corners.
    for points in points_to_try(corners, row):
        if do_part(row, moved, points):
            return points
    return None


def turning_points(corners, row, moved):
    """Points by which the first row of gaps is above 0 and the other one below, or None."""
    # Where such points are none of the corners, there are some by which both rows add up to 0.
    both = [number + more for number, more in zip(row, moved)]
    for points in points_to_try(corners, both):
        if worth(row, points) > 0 and worth(moved, points) < 0:
            return points
    return None


def parting(chart, other, family):
    """A table of the family that parts the charts for two riders, and these riders, or None."""
    check_like_charts(chart, other, family)
    corners = family.corner_points()
    riders = chart.riders()
    for position, one in enumerate(riders):
        for rival in riders[position + 1:]:
            points = parting_points(corners, gap_row(chart, one, rival), gap_row(other, one, rival))
            if points is not None:
                return Table(*points), one, rival
    return None


def are_alike(chart, other, family):
    """Whether each table of the family has the same standing in both charts."""
    return parting(chart, other, family) is None


def is_parting(chart, other, family, value):
    """Whether the value is a table of the family and two riders for whom it parts the charts."""
    check_like_charts(chart, other, family)
    if not isinstance(value, tuple) or len(value) != 3:
        return False
    table, one, rival = value
    if table not in family or one not in chart or rival not in chart:
        return False
    return do_part(gap_row(chart, one, rival), gap_row(other, one, rival), whole_points(table))


def turning(chart, other, family, one, rival):
    """A table of the family by which one is ahead of the rival in the chart and behind in the other, or None."""
    check_charts(chart, other, family)
    check_in_both(one, chart, other)
    check_in_both(rival, chart, other)
    points = turning_points(family.corner_points(), gap_row(chart, one, rival), gap_row(other, one, rival))
    if points is None:
        return None
    return Table(*points)


def turned(chart, other, family):
    """The pairs of riders of both charts that some table of the family turns, sorted."""
    check_charts(chart, other, family)
    corners = family.corner_points()
    riders = [rider for rider in chart.riders() if rider in other]
    found = []
    for one in riders:
        for rival in riders:
            if turning_points(corners, gap_row(chart, one, rival), gap_row(other, one, rival)) is not None:
                found.append((one, rival))
    return found
