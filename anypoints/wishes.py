"""Wishes: riders that are to be first alone by tables of their own, the charts that do it, and bars of it."""

from anypoints.charts import Chart, check_chart
from anypoints.errors import InvalidRiders, InvalidWishes, TooMany
from anypoints.mixes import is_so
from anypoints.ratios import Ratio, as_ratio, is_list, is_name, is_number, sign_of
from anypoints.seasons import Season, check_riders
from anypoints.solving import numbers_or_weights
from anypoints.tables import PLACES, Table, whole_numbers, whole_points

MOST_WISHES = 4


def is_wish(riders, value):
    """Whether the value is a tuple of a table and one of the riders."""
    if not isinstance(value, tuple) or len(value) != 2:
        return False
    return isinstance(value[0], Table) and is_name(value[1]) and value[1] in riders


def check_wishes(riders, wishes):
    """Raises InvalidWishes, or TooMany, unless these are at most four wishes for the riders."""
    if not is_list(wishes):
        raise InvalidWishes(None)
    for position, wish in enumerate(wishes):
        if not is_wish(riders, wish):
            raise InvalidWishes(position)
    if len(wishes) > MOST_WISHES:
        raise TooMany("wishes", MOST_WISHES)


def check_riders_and_wishes(riders, wishes):
    """Raises an error unless these are riders and wishes for them."""
    check_riders(riders)
    if len(riders) > Season.MOST_RIDERS:
        raise TooMany("riders", Season.MOST_RIDERS)
    check_wishes(riders, wishes)


def are_riders_and_wishes(riders, wishes):
    """Whether these are riders and wishes for them."""
    try:
        check_riders_and_wishes(riders, wishes)
    except (InvalidRiders, InvalidWishes, TooMany):
        return False
    return True


def fulfils(chart, wishes):
    """Whether the chart fulfils all wishes."""
    check_chart(chart)
    check_wishes(chart.riders(), wishes)
    return all([is_so(chart, wish[0], wish[1], "first alone") for wish in wishes])


def wished_riders(wishes):
    """The riders that are to be first by some wish, sorted."""
    return sorted(set([wish[1] for wish in wishes]))


def contests_of(wishes):
    """For each wish its position with each rider of another wish whom its own one has to be ahead of."""
    wished = wished_riders(wishes)
    return [(position, rival) for position, wish in enumerate(wishes) for rival in wished if rival != wish[1]]


def contest_row(wishes, contest):
    """What one count more of each wished rider at each place does for the wish in the contest."""
    position, rival = contest
    table, rider = wishes[position]
    points = whole_points(table)
    row = []
    for other in wished_riders(wishes):
        way = int(other == rider) - int(other == rival)
        row = row + [way * point for point in points]
    return row


def counts_or_weights(wishes):
    """Counts of the wished riders that fulfil the wishes, as Ratios, and None; or None and weights of the contests."""
    rows = [contest_row(wishes, contest) for contest in contests_of(wishes)]
    return numbers_or_weights(rows, PLACES * len(wished_riders(wishes)), 1)


def can_all(riders, wishes):
    """Whether some chart of the riders fulfils all wishes."""
    return wished_chart(riders, wishes) is not None


def wished_chart(riders, wishes):
    """A chart of the riders that fulfils all wishes, or None."""
    check_riders_and_wishes(riders, wishes)
    wished = wished_riders(wishes)
    if len(wished) < 2:
        # Whoever alone has a first place is first alone by every table.
        return Chart({rider: [int(rider in wished)] for rider in riders})
    numbers, _ = counts_or_weights(wishes)
    if numbers is None:
        return None
    counts = whole_numbers(numbers)
    # Riders without a wish need no counts: whoever is ahead of another one has more than 0.
    rows = {rider: [] for rider in riders}
    for position, rider in enumerate(wished):
        rows[rider] = counts[PLACES * position:PLACES * (position + 1)]
    return Chart(rows)


def wish_bar(riders, wishes):
    """A list that bars the wishes, or None."""
    check_riders_and_wishes(riders, wishes)
    if len(wished_riders(wishes)) < 2:
        return None
    _, weights = counts_or_weights(wishes)
    if weights is None:
        return None
    bar = [{} for _ in wishes]
    for contest, weight in zip(contests_of(wishes), weights):
        position, rival = contest
        if weight > 0:
            # The contests were told by whole points, but the bar is told by the points of the table.
            table = wishes[position][0]
            bar[position][rival] = Ratio(weight * whole_points(table)[0]).over(table[1])
    return bar


def is_part(riders, wish, value):
    """Whether the value is a dict from riders other than the wished one to NUMBERS above 0."""
    if not isinstance(value, dict):
        return False
    if not all([is_name(rider) and rider in riders and rider != wish[1] for rider in value]):
        return False
    return all([is_number(number) and sign_of(number) > 0 for number in list(value.values())])


def has_form_of_bar(riders, wishes, value):
    """Whether the value is a list of such dicts, one for each wish, not all of them empty."""
    if not is_list(value) or len(value) != len(wishes):
        return False
    if not all([is_part(riders, wish, part) for wish, part in zip(wishes, value)]):
        return False
    return any([len(part) > 0 for part in value])


def times_for(rider, wish, part):
    """How often a bar with this part counts the points of the wish's table for the rider."""
    if rider == wish[1]:
        numbers = list(part.values())
        return Ratio.total(*numbers)
    return -as_ratio(part.get(rider, 0))


def bar_sums(rider, wishes, bar):
    """For each place what the bar adds up to for the rider."""
    times = [times_for(rider, wish, part) for wish, part in zip(wishes, bar)]
    found = []
    for place in range(1, PLACES + 1):
        parts = [number * wish[0][place] for number, wish in zip(times, wishes)]
        found.append(Ratio.total(*parts))
    return found


def is_wish_bar(riders, wishes, value):
    """Whether the value is a list that bars the wishes."""
    check_riders_and_wishes(riders, wishes)
    if not has_form_of_bar(riders, wishes, value):
        return False
    return all([number.sign <= 0 for rider in riders for number in bar_sums(rider, wishes, value)])
