"""Claims about charts and families, and their papers."""

from anypoints.charts import Chart, chart_of, gap_row
from anypoints.derive import derivation_of, is_derivation
from anypoints.errors import InvalidClaim
from anypoints.families import Family
from anypoints.leads import gaps
from anypoints.mixes import bars, is_end, is_so
from anypoints.orders import are_weights, does_come, is_order, order_table, weights_against
from anypoints.ratios import is_count, is_integer, is_list, is_name
from anypoints.rounds import does_fit, season_of, sums_of, what_bars
from anypoints.seasons import Season
from anypoints.standings import points_of
from anypoints.tables import PLACES
from anypoints.winners import mix_against, table_for
from anypoints.wishes import are_riders_and_wishes, fulfils, is_wish_bar, wish_bar, wished_chart

KINDS_OF_CLAIMS = ("never behind", "can be behind", "can be", "cannot be", "comes", "never comes", "within", "beyond",
                   "fits", "too many", "wished", "unwished")


def begin_with_chart_and_family(told, many):
    """Whether these are so many values, a chart and a family first."""
    return len(told) == many and isinstance(told[0], Chart) and isinstance(told[1], Family)


def tell_rivals(told):
    """Whether these are a chart, a family and two riders of the chart."""
    return begin_with_chart_and_family(told, 4) and told[2] in told[0] and told[3] in told[0]


def tell_end(told):
    """Whether these are a chart, a family, a rider of the chart and an end."""
    return begin_with_chart_and_family(told, 4) and told[2] in told[0] and is_end(told[3])


def tell_order(told):
    """Whether these are a chart, a family and an order of the chart."""
    return begin_with_chart_and_family(told, 3) and is_order(told[0], told[2])


def tell_families(told):
    """Whether these are two families."""
    return len(told) == 2 and isinstance(told[0], Family) and isinstance(told[1], Family)


def tell_races(told):
    """Whether these are a chart and a number of races."""
    return len(told) == 2 and isinstance(told[0], Chart) and is_count(told[1])


def tell_few_races(told):
    """Whether these are a chart and a number of races that a season can have."""
    return tell_races(told) and told[1] <= Season.MOST_RACES


def tell_wishes(told):
    """Whether these are riders and wishes for them."""
    return len(told) == 2 and are_riders_and_wishes(told[0], told[1])


# For each kind of claim what has to stand behind its first word.
FORMS = {
    "never behind": tell_rivals, "can be behind": tell_rivals,
    "can be": tell_end, "cannot be": tell_end,
    "comes": tell_order, "never comes": tell_order,
    "within": tell_families, "beyond": tell_families,
    "fits": tell_few_races, "too many": tell_races,
    "wished": tell_wishes, "unwished": tell_wishes,
}


def is_claim(value):
    """Whether the value is a claim."""
    if not isinstance(value, tuple) or len(value) == 0:
        return False
    if not isinstance(value[0], str) or value[0] not in KINDS_OF_CLAIMS:
        return False
    has_form = FORMS[value[0]]
    return has_form(value[1:])


def check_claim(claim):
    """Raises InvalidClaim unless the value is a claim."""
    if not is_claim(claim):
        raise InvalidClaim(claim)


def lead_derivation(chart, family, one, other):
    """A derivation of the counts of one less those of the other, or None."""
    return derivation_of(family, gap_row(chart, one, other))


def is_lead_derivation(chart, family, one, other, value):
    """Whether the value is a derivation of the counts of one less those of the other."""
    return is_derivation(family, gap_row(chart, one, other), value)


def table_behind(chart, family, one, other):
    """A table of the family by which one has fewer points than the other, or None."""
    for table, gap in zip(family.corners(), gaps(chart, family, one, other)):
        if gap < 0:
            return table
    return None


def is_table_behind(chart, family, one, other, value):
    """Whether the value is a table of the family by which one has fewer points than the other."""
    return value in family and points_of(chart, value, one).is_below(points_of(chart, value, other))


def is_end_table(chart, family, rider, end, value):
    """Whether the value is a table of the family that brings the rider to the end."""
    return value in family and is_so(chart, value, rider, end)


def is_order_table(chart, family, order, value):
    """Whether the value is a table of the family that makes the order come."""
    return value in family and does_come(chart, value, order)


def rows_to_derive(family, other):
    """The rows that all tables of the family keep if it is within the other one, and only then."""
    rows = other.sayings()
    for place in range(other.paid + 1, family.paid + 1):
        rows.append([-int(place == at) for at in range(1, PLACES + 1)])
    return rows


def derivations(family, other):
    """Derivations that show that the family is within the other one, or None."""
    found = [derivation_of(family, row) for row in rows_to_derive(family, other)]
    if any([told is None for told in found]):
        return None
    return found


def are_derivations(family, other, value):
    """Whether the value is derivations that show that the family is within the other one."""
    rows = rows_to_derive(family, other)
    if not is_list(value) or len(value) != len(rows):
        return False
    return all([is_derivation(family, row, told) for row, told in zip(rows, value)])


def table_beyond(family, other):
    """A table that is in the family and not in the other one, or None."""
    return family.beyond(other)


def is_table_beyond(family, other, value):
    """Whether the value is a table that is in the family and not in the other one."""
    return value in family and value not in other


def fitting_season(chart, many):
    """A season with so many races whose chart it is, or None."""
    if not does_fit(chart, many):
        return None
    return season_of(chart, many)


def is_fitting_season(chart, many, value):
    """Whether the value is a season with so many races whose chart it is."""
    return isinstance(value, Season) and len(value) == many and chart_of(value) == chart


def is_excess(chart, many, value):
    """Whether the value names a rider or a place whose row or column adds up to more than so many races."""
    if not isinstance(value, tuple) or len(value) != 2:
        return False
    # True is equal to 1, but it is no place.
    if not isinstance(value[0], str) or not (is_name(value[1]) or is_integer(value[1])):
        return False
    return value in [name for name, number in sums_of(chart) if number > many]


def is_wished_chart(riders, wishes, value):
    """Whether the value is a chart of the riders that fulfils all wishes."""
    return isinstance(value, Chart) and value.riders() == sorted(riders) and fulfils(value, wishes)


def paper_of(kind, told):
    """A paper of the claim of this kind about these values, or None."""
    if kind == "never behind":
        return lead_derivation(*told)
    if kind == "can be behind":
        return table_behind(*told)
    if kind == "can be":
        return table_for(*told)
    if kind == "cannot be":
        return mix_against(*told)
    if kind == "comes":
        return order_table(*told)
    if kind == "never comes":
        return weights_against(*told)
    if kind == "within":
        return derivations(*told)
    if kind == "beyond":
        return table_beyond(*told)
    if kind == "fits":
        return fitting_season(*told)
    if kind == "too many":
        return what_bars(*told)
    if kind == "wished":
        return wished_chart(*told)
    return wish_bar(*told)


def does_show(kind, told, value):
    """Whether the value is a paper of the claim of this kind about these values."""
    if kind == "never behind":
        return is_lead_derivation(*told, value)
    if kind == "can be behind":
        return is_table_behind(*told, value)
    if kind == "can be":
        return is_end_table(*told, value)
    if kind == "cannot be":
        return bars(*told, value)
    if kind == "comes":
        return is_order_table(*told, value)
    if kind == "never comes":
        return are_weights(*told, value)
    if kind == "within":
        return are_derivations(*told, value)
    if kind == "beyond":
        return is_table_beyond(*told, value)
    if kind == "fits":
        return is_fitting_season(*told, value)
    if kind == "too many":
        return is_excess(*told, value)
    if kind == "wished":
        return is_wished_chart(*told, value)
    return is_wish_bar(*told, value)


def paper(claim):
    """A paper of the claim, or None if it is not true."""
    check_claim(claim)
    return paper_of(claim[0], claim[1:])


def is_paper(claim, value):
    """Whether the claim is true and the value is a paper of it."""
    check_claim(claim)
    # What is accepted for a claim shows by itself that the claim is true.
    return does_show(claim[0], claim[1:], value)
