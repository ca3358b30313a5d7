"""Charts: how often each rider came to the places from 1 to 5."""

from anypoints.errors import InvalidChart, InvalidRows, InvalidTeams, LastRider, TooMany
from anypoints.ratios import check_count, is_count, is_list, is_name
from anypoints.seasons import Season, check_rider, check_same_riders, check_season
from anypoints.tables import PLACES


def has_names(value):
    """Whether the value is a dict, not empty, all of whose keys are NAMES."""
    return isinstance(value, dict) and len(value) > 0 and all([is_name(key) for key in value])


def are_counts(value):
    """Whether the value is a list of at most five COUNTS."""
    return is_list(value) and len(value) <= PLACES and all([is_count(number) for number in value])


def check_rows(rows):
    """Raises InvalidRows unless a chart can have these rows."""
    if not has_names(rows):
        raise InvalidRows(None)
    for rider in sorted(rows):
        if not are_counts(rows[rider]):
            raise InvalidRows(rider)


def is_team(value, riders):
    """Whether the value is a list of some of the riders, all different."""
    if not is_list(value) or len(value) == 0:
        return False
    if not all([is_name(rider) and rider in riders for rider in value]):
        return False
    return len(set(value)) == len(value)


def check_teams(teams, riders):
    """Raises InvalidTeams unless these are teams of the riders, each of whom is in one team at most."""
    if not has_names(teams):
        raise InvalidTeams(None)
    free = riders
    for team in sorted(teams):
        if not is_team(teams[team], free):
            raise InvalidTeams(team)
        free = [rider for rider in free if rider not in teams[team]]


def added_up(rows):
    """The sum of the rows, place by place."""
    return [sum(numbers) for numbers in zip(*rows)]


def check_chart(chart):
    """Raises InvalidChart unless the value is a Chart."""
    if not isinstance(chart, Chart):
        raise InvalidChart(chart)


def rivals_of(chart, rider):
    """The other riders of the chart, sorted."""
    return [other for other in chart.riders() if other != rider]


def gap_row(chart, one, rival):
    """The counts of one less those of the rival, place by place."""
    return [number - less for number, less in zip(chart[one], chart[rival])]


class Chart:
    """For each of one to six riders five counts: how often the rider came to each place."""

    def __init__(self, rows):
        check_rows(rows)
        if len(rows) > Season.MOST_RIDERS:
            raise TooMany("riders", Season.MOST_RIDERS)
        self._rows = {rider: list(rows[rider]) + [0] * (PLACES - len(rows[rider])) for rider in sorted(rows)}

    def riders(self):
        """The riders, sorted."""
        return list(self._rows)

    def rows(self):
        """The rows of all riders, five counts each."""
        return {rider: list(row) for rider, row in self._rows.items()}

    def __getitem__(self, at):
        check_rider(at, self)
        return list(self._rows[at])

    # Without this, Python would try the positions from 0 on.
    def __iter__(self):
        raise TypeError("a chart is not iterated over")

    def firsts(self, rider):
        """How often the rider came to one of the first k places, for k from 1 to 5."""
        row = self[rider]
        return [sum(row[:k]) for k in range(1, PLACES + 1)]

    def __contains__(self, x):
        return is_name(x) and x in self._rows

    def __len__(self):
        return len(self._rows)

    def __add__(self, other):
        check_chart(other)
        check_same_riders(self, other)
        return Chart({rider: added_up([row, other[rider]]) for rider, row in self._rows.items()})

    def __mul__(self, other):
        check_count(other)
        return Chart({rider: [number * other for number in row] for rider, row in self._rows.items()})

    def __rmul__(self, other):
        return self * other

    def without(self, rider):
        """The chart without the row of the rider."""
        check_rider(rider, self)
        if len(self._rows) == 1:
            raise LastRider(rider)
        return Chart({other: row for other, row in self._rows.items() if other != rider})

    def teamed(self, teams):
        """The chart of the teams; riders of no team are left out."""
        check_teams(teams, self.riders())
        return Chart({team: added_up([self[rider] for rider in teams[team]]) for team in teams})

    def __eq__(self, other):
        return isinstance(other, Chart) and self._rows == other._rows

    def __repr__(self):
        return f"Chart({self._rows!r})"


def counts_of(places):
    """How often each of the places from 1 to 5 is among these."""
    return [places.count(place) for place in range(1, PLACES + 1)]


def least_places(season, rider, many):
    """So many of the places of the rider, the least ones."""
    told = [place for place in season.places(rider) if place is not None]
    return sorted(told)[:many]


def chart_of(season):
    """The chart of the season."""
    check_season(season)
    return Chart({rider: counts_of(season.places(rider)) for rider in season.riders()})


def best_of(season, many):
    """The chart in which of each rider only so many results count, the best ones."""
    check_season(season)
    check_count(many)
    return Chart({rider: counts_of(least_places(season, rider, many)) for rider in season.riders()})
