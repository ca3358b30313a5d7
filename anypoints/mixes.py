"""Ends that a rider can come to, and mixes of rivals that bar them."""

from anypoints.charts import check_chart, gap_row, rivals_of
from anypoints.errors import InvalidEnd
from anypoints.families import worth
from anypoints.leads import check_one
from anypoints.ratios import Ratio, is_name, is_number, sign_of
from anypoints.seasons import check_rider
from anypoints.standings import points_of
from anypoints.tables import check_table, whole_points

ENDS = ("first", "first alone", "last", "last alone")

# The signs that the gaps of a rider to all rivals have at this end.
SIGNS = {"first": (0, 1), "first alone": (1,), "last": (-1, 0), "last alone": (-1,)}


def is_end(value):
    """Whether the value is one of the four ends."""
    return isinstance(value, str) and value in ENDS


def check_end(end):
    """Raises InvalidEnd unless the value is one of the four ends."""
    if not is_end(end):
        raise InvalidEnd(end)


def is_so(chart, table, rider, end):
    """Whether the table brings the rider to the end."""
    check_chart(chart)
    check_table(table)
    check_rider(rider, chart)
    check_end(end)
    points = whole_points(table)
    found = [worth(gap_row(chart, rider, rival), points) for rival in rivals_of(chart, rider)]
    return all([sign_of(gap) in SIGNS[end] for gap in found])


def is_mix(chart, rider, value):
    """Whether the value is a mix of the rider's rivals."""
    check_chart(chart)
    check_rider(rider, chart)
    if not isinstance(value, dict) or len(value) == 0:
        return False
    rivals = rivals_of(chart, rider)
    if not all([is_name(name) and name in rivals for name in value]):
        return False
    numbers = list(value.values())
    if not all([is_number(number) and sign_of(number) > 0 for number in numbers]):
        return False
    return Ratio.total(*numbers) == Ratio(1)


def mixed_points(chart, table, mix):
    """The points of the mix by the table."""
    check_chart(chart)
    check_table(table)
    found = [points_of(chart, table, name) * number for name, number in mix.items()]
    return Ratio.total(*found)


def bars(chart, family, rider, end, value):
    """Whether the value is a mix of the rider's rivals that bars the rider from the end."""
    check_one(chart, family, rider)
    check_end(end)
    if not is_mix(chart, rider, value):
        return False
    corners = family.corners()
    found = [points_of(chart, corner, rider) - mixed_points(chart, corner, value) for corner in corners]
    # At the end no gap to a rival has another sign, so neither has the gap to a mix of them.
    return all([sign_of(gap) not in SIGNS[end] for gap in found])
