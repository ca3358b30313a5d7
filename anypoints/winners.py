"""Winners: who comes to an end by some table of a family, and what shows or bars it."""

from anypoints.charts import Chart, check_chart, rivals_of
from anypoints.errors import InvalidEnd
from anypoints.families import check_family, sum_of_corners
from anypoints.leads import check_one, gaps
from anypoints.mixes import SIGNS, check_end
from anypoints.ratios import Ratio, check_count
from anypoints.solving import numbers_or_weights


def rows_to_raise(chart, family, rider, end):
    """For each rival the gaps of the rider at the corners, turned such that none may be below 0 at the end."""
    way = max(SIGNS[end], key=abs)
    return [[way * gap for gap in gaps(chart, family, rider, rival)] for rival in rivals_of(chart, rider)]


def shares_or_weights(chart, family, rider, end):
    """How often the corners are taken to bring the rider to the end, and None; or None and weights of the rivals."""
    check_one(chart, family, rider)
    check_end(end)
    rows = rows_to_raise(chart, family, rider, end)
    return numbers_or_weights(rows, len(family.corners()), min([abs(sign) for sign in SIGNS[end]]))


def can_be(chart, family, rider, end):
    """Whether some table of the family brings the rider to the end."""
    shares, _ = shares_or_weights(chart, family, rider, end)
    return shares is not None


def table_for(chart, family, rider, end):
    """A table of the family that brings the rider to the end, or None."""
    shares, _ = shares_or_weights(chart, family, rider, end)
    if shares is None:
        return None
    return sum_of_corners(family, shares)


def mix_against(chart, family, rider, end):
    """A mix of the rider's rivals that bars the rider from the end, or None."""
    _, weights = shares_or_weights(chart, family, rider, end)
    if weights is None:
        return None
    whole = sum(weights)
    return {rival: Ratio(weight, whole) for rival, weight in zip(rivals_of(chart, rider), weights) if weight > 0}


def all_who(chart, family, end):
    """The riders that some table of the family brings to the end, sorted."""
    check_chart(chart)
    check_family(family)
    check_end(end)
    return [rider for rider in chart.riders() if can_be(chart, family, rider, end)]


def won_by(chart, rider, many):
    """The chart with so many races more that the rider wins, and in which nobody else gets a place."""
    return chart + Chart({other: [many * int(other == rider)] for other in chart.riders()})


def can_still(chart, family, rider, left, end):
    """Whether the rider can be first (alone) by some table of the family and so many further races."""
    check_one(chart, family, rider)
    check_count(left)
    check_end(end)
    if 1 not in SIGNS[end]:
        raise InvalidEnd(end)
    return can_be(won_by(chart, rider, left), family, rider, end)
