"""Numbers from 0 on by which columns add up to a sum, or rows to more than 0; and weights that show there are none."""

from anypoints.ratios import Ratio
from anypoints.tables import without_divisor


def unit(at, many):
    """So many numbers, 1 at the position and 0 elsewhere."""
    return [int(at == other) for other in range(many)]


def equation(columns, target, at):
    """The numbers of the columns at the position, its unit, and the target's number, turned to 0 or more."""
    row = [column[at] for column in columns] + unit(at, len(target)) + [target[at]]
    if target[at] < 0:
        return [-number for number in row]
    return row


def entering(lacking):
    """The first column of which more makes less lacking, or None."""
    for column, number in enumerate(lacking):
        if number > 0:
            return column
    return None


def leaving(rows, owners, column):
    """The position of the row that allows least of the column; of several such rows that of the first owner."""
    found = None
    for at, row in enumerate(rows):
        if row[column] <= 0:
            continue
        if found is None:
            found = at
            continue
        bound = row[-1] * rows[found][column]
        least = rows[found][-1] * row[column]
        if bound < least or (bound == least and owners[at] < owners[found]):
            found = at
    return found


def cleared(row, lead, column):
    """The row, multiplied and less the leading row, such that it has 0 in the column."""
    return without_divisor([number * lead[column] - row[column] * other for number, other in zip(row, lead)])


def cleared_all(rows, at, column):
    """All rows cleared in the column by the one at the position, which stays."""
    lead = rows[at]
    found = [cleared(row, lead, column) for row in rows]
    found[at] = lead
    return found


def taken(rows, owners, many):
    """How often each of so many columns is taken by the rows, told by their owners."""
    found = [Ratio(0) for _ in range(many)]
    for owner, row in zip(owners, rows):
        if owner < many:
            found[owner] = Ratio(row[-1], row[owner])
    return found


def decided(columns, target):
    """A Ratio from 0 on for each column, by which the columns add up to the target, and None; or None and a bar.

    The columns and the target are lists of INTEGERS of one length, which is not 0. A bar is a list of so many
    INTEGERS: multiplied by them each column adds up to at most 0, but the target to more.
    """
    many = len(columns)
    rows = [equation(columns, target, at) for at in range(len(target))]
    # What a row lacks is told by its last number, as long as its owner is none of the columns.
    owners = [many + at for at in range(len(rows))]
    lacking = [sum(numbers) for numbers in zip(*rows)]
    column = entering(lacking[:many])
    # The first column and the first owner are taken each time, since otherwise this may go round for ever.
    while column is not None:
        at = leaving(rows, owners, column)
        lacking = cleared(lacking, rows[at], column)
        rows = cleared_all(rows, at, column)
        owners[at] = column
        column = entering(lacking[:many])
    if lacking[-1] > 0:
        # What is lacking was always a sum of the equations; their units have kept how often each is in it.
        return None, lacking[many:-1]
    return taken(rows, owners, many), None


def solution_of(columns, target):
    """A Ratio from 0 on for each column, by which the columns add up to the target, or None."""
    found, _ = decided(columns, target)
    return found


def numbers_or_weights(rows, many, bound):
    """So many Ratios from 0 on, not all 0, that raise the rows, and None; or None and weights that bar this.

    The rows are lists of so many INTEGERS, at least 1. With the bound 0 the numbers, multiplied by those of a row, add
    up to no less than 0, and with the weights each column of the rows adds up to less than 0. With the bound 1 each row
    adds up to more than 0, or with the weights each column to no more than 0. The weights, INTEGERS from 0 on, are not
    all 0.
    """
    size = len(rows) + 1
    # The first row says that the numbers are not all 0. More than 0 is as good as 1, since numbers can be multiplied.
    columns = [[1] + [row[at] for row in rows] for at in range(many)]
    spare = [[-number for number in unit(at, size)] for at in range(size)]
    numbers, weights = decided(columns + spare, [1] + [bound] * len(rows))
    if numbers is None:
        return None, weights[1:]
    return numbers[:many], None
