"""Numbers from 0 on by which given columns add up to a given sum, found exactly."""

from anypoints.ratios import Ratio
from anypoints.tables import without_divisor


def equation(columns, target, at):
    """The numbers of the columns at the position, and behind them the target's, turned to 0 or more."""
    row = [column[at] for column in columns] + [target[at]]
    if target[at] < 0:
        return [-number for number in row]
    return row


def entering(lacking):
    """The first column of which more makes less lacking, or None."""
    for column, number in enumerate(lacking[:-1]):
        if number > 0:
            return column
    return None


def leaving(rows, owners, column):
    """The position of the row that allows least of the column; of several such rows that of the first owner."""
    found = None
    for at, row in enumerate(rows):
        if row[column] <= 0:
            continue
        if found is None:
            found = at
            continue
        bound = row[-1] * rows[found][column]
        least = rows[found][-1] * row[column]
        if bound < least or (bound == least and owners[at] < owners[found]):
            found = at
    return found


def cleared(row, lead, column):
    """The row, multiplied and less the leading row, such that it has 0 in the column."""
    return without_divisor([number * lead[column] - row[column] * other for number, other in zip(row, lead)])


def cleared_all(rows, at, column):
    """All rows cleared in the column by the one at the position, which stays."""
    lead = rows[at]
    found = [cleared(row, lead, column) for row in rows]
    found[at] = lead
    return found


def solution_of(columns, target):
    """A Ratio from 0 on for each column, by which the columns add up to the target, or None.

    The columns and the target are lists of INTEGERS of one length, which is not 0.
    """
    rows = [equation(columns, target, at) for at in range(len(target))]
    # What a row lacks is told by its last number, as long as its owner is none of the columns.
    owners = [len(columns) + at for at in range(len(rows))]
    lacking = [sum(numbers) for numbers in zip(*rows)]
    column = entering(lacking)
    # The first column and the first owner are taken each time, since otherwise this may go round for ever.
    while column is not None:
        at = leaving(rows, owners, column)
        lacking = cleared(lacking, rows[at], column)
        rows = cleared_all(rows, at, column)
        owners[at] = column
        column = entering(lacking)
    if lacking[-1] > 0:
        return None
    found = [Ratio(0) for _ in columns]
    for owner, row in zip(owners, rows):
        if owner < len(columns):
            found[owner] = Ratio(row[-1], row[owner])
    return found
