"""Leads: what all tables of a family say of one rider and another."""

from anypoints.charts import chart_of, check_chart, gap_row, rivals_of
from anypoints.errors import NoRivals
from anypoints.families import check_family, worth
from anypoints.ratios import check_count
from anypoints.seasons import check_rider, check_season


def check_one(chart, family, rider):
    """Raises an error unless these are a chart, a family and a rider of the chart."""
    check_chart(chart)
    check_family(family)
    check_rider(rider, chart)


def gaps(chart, family, one, rival):
    """For each corner of the family the points of one less those of the rival."""
    check_one(chart, family, one)
    check_rider(rival, chart)
    row = gap_row(chart, one, rival)
    return [worth(row, points) for points in family.corner_points()]


def relation(chart, family, one, rival):
    """What all tables of the family say of one and the rival, in a word or two."""
    found = gaps(chart, family, one, rival)
    least = min(found)
    most = max(found)
    if least == 0 and most == 0:
        return "level"
    if least > 0:
        return "ahead"
    if most < 0:
        return "behind"
    if least == 0:
        return "never behind"
    if most == 0:
        return "never ahead"
    return "open"


def leads_of(chart, family, rider):
    """For each rival and each corner the gap of the rider to the rival, and the points for the place 1."""
    firsts = [points[0] for points in family.corner_points()]
    found = []
    for rival in rivals_of(chart, rider):
        found = found + list(zip(gaps(chart, family, rider, rival), firsts))
    return found


def is_sure(chart, family, rider, left):
    """Whether the rider is never behind a rival, whatever so many further races bring."""
    check_one(chart, family, rider)
    check_count(left)
    return all([gap >= left * first for gap, first in leads_of(chart, family, rider)])


def most_left(chart, family, rider):
    """The greatest number of races left with which the rider is sure, or None."""
    check_one(chart, family, rider)
    if len(chart) == 1:
        raise NoRivals(rider)
    most = min([gap // first for gap, first in leads_of(chart, family, rider)])
    if most < 0:
        return None
    return most


def by_place(season, rider):
    """The positions of the races in which the rider has a place, those with the least places first."""
    places = season.places(rider)
    held = sorted([(place, position) for position, place in enumerate(places) if place is not None])
    return [pair[1] for pair in held]


def voiding(season, family, one, rival):
    """The positions of the fewest results of the rival without which one is never behind, ascending."""
    check_season(season)
    check_family(family)
    check_rider(one, season)
    check_rider(rival, season)
    found = []
    rest = season
    for position in by_place(season, rival):
        if min(gaps(chart_of(rest), family, one, rival)) >= 0:
            break
        rest = rest.voided(rival, position)
        found.append(position)
    return sorted(found)


def fewest_voided(season, family, one, rival):
    """How many results of the rival must be voided at least, such that one is never behind."""
    return len(voiding(season, family, one, rival))
