"""Standings: who has more points by one table."""

from anypoints.charts import check_chart, gap_row
from anypoints.errors import TooMany
from anypoints.families import worth
from anypoints.seasons import check_rider
from anypoints.tables import check_table, whole_points

MOST_COUNTS = 1000


def points_of(chart, table, rider):
    """The points of the rider by the table."""
    check_chart(chart)
    check_table(table)
    check_rider(rider, chart)
    return worth(chart[rider], table.points())


def totals(chart, table):
    """The points of all riders by the table."""
    check_chart(chart)
    check_table(table)
    return {rider: points_of(chart, table, rider) for rider in chart.riders()}


def ranked(worths):
    """The riders of the dict in lists, those with the greatest worth first, those with equal ones together."""
    levels = sorted(set(list(worths.values())))
    return [[rider for rider in worths if worths[rider] == level] for level in levels[::-1]]


def standing(chart, table):
    """The standing by the table."""
    check_chart(chart)
    check_table(table)
    # Any like table has the same standing, and whole numbers can be sorted.
    points = whole_points(table)
    return ranked({rider: worth(chart[rider], points) for rider in chart.riders()})


def steep_standing(chart):
    """The standing in which one place more outweighs all places behind it."""
    check_chart(chart)
    return ranked({rider: tuple(chart[rider]) for rider in chart.riders()})


def steep_worth(row, s):
    """The sum of the row's numbers, each multiplied by the points of its place in the steep table of s."""
    found = 0
    for number in row:
        found = found * s + number
    return found


def steepness(chart):
    """The least s from which on all steep tables of 5 places have the steep standing."""
    check_chart(chart)
    most = max([max(chart[rider]) for rider in chart.riders()])
    if most > MOST_COUNTS:
        raise TooMany("counts", MOST_COUNTS)
    first_ones = [level[0] for level in steep_standing(chart)]
    rows = [gap_row(chart, one, rival) for one, rival in zip(first_ones, first_ones[1:])]
    # If s is greater than each count, the first count that differs outweighs all behind it.
    s = most + 1
    while s > 1 and all([steep_worth(row, s - 1) > 0 for row in rows]):
        s = s - 1
    return s
