"""Orders: whole standings without ties, the tables by which they come, and weights that bar them."""

from anypoints.charts import check_chart, gap_row
from anypoints.derive import are_weights_for
from anypoints.errors import InvalidOrder
from anypoints.families import check_family, sum_of_corners, worth
from anypoints.leads import gaps
from anypoints.ratios import Ratio, is_list, is_name, sign_of
from anypoints.solving import numbers_or_weights
from anypoints.tables import check_table, whole_points


def is_order(chart, value):
    """Whether the value is a list of all riders of the chart, each once."""
    check_chart(chart)
    if not is_list(value) or not all([is_name(rider) for rider in value]):
        return False
    return sorted(value) == chart.riders()


def check_order(chart, order):
    """Raises InvalidOrder unless the value is an order of the chart."""
    if not is_order(chart, order):
        raise InvalidOrder(order)


def does_come(chart, table, order):
    """Whether by the table each rider has more points than the next one in the order."""
    check_chart(chart)
    check_table(table)
    check_order(chart, order)
    points = whole_points(table)
    return all([worth(gap_row(chart, one, rival), points) > 0 for one, rival in zip(order, order[1:])])


def order_gaps(chart, family, order):
    """For each rider of the order but the last one the gaps to the next one at the corners."""
    return [gaps(chart, family, one, rival) for one, rival in zip(order, order[1:])]


def shares_or_weights(chart, family, order):
    """How often the corners are taken to make the order come, and None; or None and weights that bar it."""
    check_chart(chart)
    check_family(family)
    check_order(chart, order)
    return numbers_or_weights(order_gaps(chart, family, order), len(family.corners()), 1)


def order_table(chart, family, order):
    """A table of the family that makes the order come, or None."""
    shares, _ = shares_or_weights(chart, family, order)
    if shares is None:
        return None
    return sum_of_corners(family, shares)


def weights_against(chart, family, order):
    """Weights that bar the order, or None."""
    _, weights = shares_or_weights(chart, family, order)
    if weights is None:
        return None
    return [Ratio(weight) for weight in weights]


def are_weights(chart, family, order, value):
    """Whether the value is weights that bar the order."""
    check_chart(chart)
    check_family(family)
    check_order(chart, order)
    if not are_weights_for(value, len(order) - 1) or all([sign_of(number) == 0 for number in value]):
        return False
    rows = order_gaps(chart, family, order)
    return all([sign_of(worth(column, value)) <= 0 for column in zip(*rows)])


def can_begin(chart, family, begun, rest):
    """Whether by some table the riders begun with come in this sequence, and ahead of the rest."""
    rows = order_gaps(chart, family, begun) + [gaps(chart, family, begun[-1], rival) for rival in rest]
    numbers, _ = numbers_or_weights(rows, len(family.corners()), 1)
    return numbers is not None


def orders_from(chart, family, begun, rest):
    """Yields all orders that come by some table and begin with these riders, in ascending order."""
    if len(rest) == 0:
        yield list(begun)
        return
    for rider in rest:
        longer = [*begun, rider]
        behind = [other for other in rest if other != rider]
        if can_begin(chart, family, longer, behind):
            yield from orders_from(chart, family, longer, behind)


def all_orders(chart, family):
    """Yields all orders that come by some table of the family, in ascending order."""
    check_chart(chart)
    check_family(family)
    begun = []
    rest = chart.riders()
    yield from orders_from(chart, family, begun, rest)
