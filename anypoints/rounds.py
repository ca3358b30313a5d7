"""Rounds: how many races a chart fits, and a season that has it."""

from anypoints.charts import added_up, check_chart
from anypoints.errors import DoesNotFit, TooMany
from anypoints.ratios import check_count
from anypoints.seasons import Season, without_last_none
from anypoints.tables import PLACES


def sums_of(chart):
    """For each rider and each place a tuple that names it, and what its row or column adds up to."""
    rows = [chart[rider] for rider in chart.riders()]
    by_rider = [(("rider", rider), sum(chart[rider])) for rider in chart.riders()]
    return by_rider + [(("place", place), number) for place, number in enumerate(added_up(rows), start=1)]


def least_races(chart):
    """The least number of races that the chart fits."""
    check_chart(chart)
    return max([number for _, number in sums_of(chart)])


def does_fit(chart, many):
    """Whether some season with so many races has the chart."""
    return what_bars(chart, many) is None


def what_bars(chart, many):
    """The rider or the place whose row or column adds up to more than so many races, or None."""
    check_chart(chart)
    check_count(many)
    for name, number in sums_of(chart):
        if number > many:
            return name
    return None


def on_diagonal(numbers):
    """The square with these numbers on its diagonal, and 0 elsewhere."""
    return [[number * int(at == other) for other in range(len(numbers))] for at, number in enumerate(numbers)]


def filled_up(rows, many):
    """A square that begins with the rows, and in which each row and each column adds up to so many."""
    columns = [list(column) for column in zip(*rows)]
    beside = on_diagonal([many - sum(row) for row in rows])
    below = on_diagonal([many - sum(column) for column in columns])
    upper = [row + more for row, more in zip(rows, beside)]
    return upper + [row + more for row, more in zip(below, columns)]


def find_column(square, at, owners, tried):
    """Gives the row at the position a column of its own; other rows may move. Whether it was found."""
    for column, number in enumerate(square[at]):
        if number == 0 or column in tried:
            continue
        tried[column] = True
        if owners[column] is None or find_column(square, owners[column], owners, tried):
            owners[column] = at
            return True
    return False


def matched(square):
    """For each column of the square a row of its own whose number in it is not 0."""
    owners = [None] * len(square)
    # Where all rows and columns of a square add up to the same, there is always such a choice.
    for at in range(len(square)):
        find_column(square, at, owners, {})
    return owners


def without_each(square, owners):
    """The square with 1 less in each column, at the row that owns it."""
    return [[number - int(owner == at) for number, owner in zip(row, owners)] for at, row in enumerate(square)]


def race_of(riders, owners):
    """The race in which the riders have the places that their rows own."""
    names = list(riders) + [None] * len(owners)
    return without_last_none([names[owner] for owner in owners[:PLACES]])


def season_of(chart, many):
    """A season of the chart's riders with so many races whose chart it is."""
    check_chart(chart)
    check_count(many)
    if many > Season.MOST_RACES:
        raise TooMany("races", Season.MOST_RACES)
    if not does_fit(chart, many):
        raise DoesNotFit(many)
    riders = chart.riders()
    square = filled_up([chart[rider] for rider in riders], many)
    races = []
    for _ in range(many):
        owners = matched(square)
        races.append(race_of(riders, owners))
        square = without_each(square, owners)
    return Season(riders, races)
