"""Derivations: what shows that all tables of a family keep a row."""

from anypoints.errors import InvalidRow
from anypoints.families import STEP_ROWS, check_family, worth
from anypoints.ratios import as_ratio, is_integer, is_list, is_number
from anypoints.solving import solution_of
from anypoints.tables import PLACES


def is_row(value):
    """Whether the value is a row."""
    return is_list(value) and len(value) == PLACES and all([is_integer(number) for number in value])


def check_row(row):
    """Raises InvalidRow unless the value is a row."""
    if not is_row(row):
        raise InvalidRow(row)


def are_weights_for(value, many):
    """Whether the value is a list of so many NUMBERS that are at least 0."""
    if not is_list(value) or len(value) != many:
        return False
    return all([is_number(number) and as_ratio(number).sign >= 0 for number in value])


def rows_kept(family):
    """What a derivation adds up, at the places that may be paid: the sayings, then a row for each place."""
    rows = family.sayings() + list(STEP_ROWS[:family.paid])
    return [row[:family.paid] for row in rows]


def is_kept(family, row):
    """Whether all tables of the family keep the row."""
    check_family(family)
    check_row(row)
    return all([worth(row, points) >= 0 for points in family.corner_points()])


def derivation_of(family, row):
    """A derivation of the row by the family, or None."""
    check_family(family)
    check_row(row)
    found = solution_of(rows_kept(family), row[:family.paid])
    if found is None:
        return None
    many = len(family.sayings())
    return found[:many], found[many:]


def is_derivation(family, row, value):
    """Whether the value is a derivation of the row by the family."""
    check_family(family)
    check_row(row)
    if not isinstance(value, tuple) or len(value) != 2:
        return False
    if not are_weights_for(value[0], len(family.sayings())) or not are_weights_for(value[1], family.paid):
        return False
    weights = [*value[0], *value[1]]
    rows = rows_kept(family)
    found = [as_ratio(worth(weights, column)) for column in zip(*rows)]
    return found == [as_ratio(number) for number in row[:family.paid]]
