"""Seasons: riders, and the races in which they came to places."""

from anypoints.errors import (InvalidRace, InvalidRaces, InvalidRiders, InvalidSeason, LastRider, NoRace, NoResult,
                              OtherRiders, TooMany, UnknownRider)
from anypoints.ratios import check_count, is_integer, is_list, is_name

LONGEST_RACE = 6


def is_race(value):
    """Whether the value is a race."""
    if not is_list(value) or len(value) > LONGEST_RACE:
        return False
    if not all([rider is None or is_name(rider) for rider in value]):
        return False
    riders = [rider for rider in value if rider is not None]
    return len(set(riders)) == len(riders) and (len(value) == 0 or value[-1] is not None)


def is_race_of(riders, value):
    """Whether the value is a race of these riders."""
    return is_race(value) and all([rider is None or rider in riders for rider in value])


def check_riders(riders):
    """Raises InvalidRiders unless these are different NAMES, at least one."""
    if not is_list(riders) or len(riders) == 0:
        raise InvalidRiders(None)
    for position, rider in enumerate(riders):
        if not is_name(rider) or rider in riders[:position]:
            raise InvalidRiders(position)


def check_races(riders, races):
    """Raises InvalidRaces unless these are races of the riders."""
    if not is_list(races):
        raise InvalidRaces(None)
    for position, race in enumerate(races):
        if not is_race_of(riders, race):
            raise InvalidRaces(position)


def check_season(season):
    """Raises InvalidSeason unless the value is a Season."""
    if not isinstance(season, Season):
        raise InvalidSeason(season)


def check_rider(rider, held):
    """Raises UnknownRider unless the value is a rider of the season or chart."""
    if rider not in held:
        raise UnknownRider(rider)


def check_same_riders(one, other):
    """Raises OtherRiders unless the two seasons or charts have the same riders."""
    if one.riders() != other.riders():
        raise OtherRiders(one, other)


def without_last_none(race):
    """The race, but for what is None at its end."""
    kept = list(race)
    while len(kept) > 0 and kept[-1] is None:
        kept = kept[:-1]
    return kept


class Season:
    """One to six riders, and at most 40 races."""

    MOST_RIDERS = 6
    MOST_RACES = 40

    def __init__(self, riders, races=()):
        check_riders(riders)
        check_races(riders, races)
        if len(riders) > self.MOST_RIDERS:
            raise TooMany("riders", self.MOST_RIDERS)
        if len(races) > self.MOST_RACES:
            raise TooMany("races", self.MOST_RACES)
        self._riders = sorted(riders)
        self._races = [list(race) for race in races]

    def riders(self):
        """The riders, sorted."""
        return list(self._riders)

    def races(self):
        """The races, in their sequence."""
        return [list(race) for race in self._races]

    def __len__(self):
        return len(self._races)

    def __getitem__(self, at):
        self.check_position(at)
        return list(self._races[at])

    # Without this, Python would try the positions from 0 on.
    def __iter__(self):
        raise TypeError("a season is not iterated over")

    def __contains__(self, x):
        return is_name(x) and x in self._riders

    def check_position(self, position):
        """Raises NoRace unless the value is the position of a race."""
        if not is_integer(position) or not 0 <= position < len(self._races):
            raise NoRace(position)

    def check_race(self, race):
        """Raises InvalidRace unless the value is a race of the riders."""
        if not is_race_of(self._riders, race):
            raise InvalidRace(race)

    def place(self, rider, position):
        """The place of the rider in the race at the position, or None."""
        check_rider(rider, self)
        self.check_position(position)
        race = self._races[position]
        if rider not in race:
            return None
        return race.index(rider) + 1

    def places(self, rider):
        """The places of the rider in all races."""
        check_rider(rider, self)
        return [self.place(rider, position) for position in range(len(self._races))]

    def __add__(self, other):
        check_season(other)
        check_same_riders(self, other)
        return Season(self._riders, self._races + other.races())

    def __mul__(self, other):
        check_count(other)
        if len(self._races) * other > self.MOST_RACES:
            raise TooMany("races", self.MOST_RACES)
        # Without races any number is as good as a small one, but Python refuses large ones.
        return Season(self._riders, self._races * min(other, self.MOST_RACES))

    def __rmul__(self, other):
        return self * other

    def with_race(self, race):
        """The season with this race at the end."""
        self.check_race(race)
        return Season(self._riders, [*self._races, race])

    def with_race_at(self, position, race):
        """The season with this race in the place of the one at the position."""
        self.check_position(position)
        self.check_race(race)
        return Season(self._riders, [*self._races[:position], race, *self._races[position + 1:]])

    def without_race(self, position):
        """The season without the race at the position."""
        self.check_position(position)
        return Season(self._riders, self._races[:position] + self._races[position + 1:])

    def struck(self, rider):
        """The season without the rider; who came behind moves up."""
        check_rider(rider, self)
        if len(self._riders) == 1:
            raise LastRider(rider)
        races = [[other for other in race if other != rider] for race in self._races]
        riders = [other for other in self._riders if other != rider]
        return Season(riders, [without_last_none(race) for race in races])

    def voided(self, rider, position):
        """The season in which nobody holds the place that the rider had in the race."""
        place = self.place(rider, position)
        if place is None:
            raise NoResult(rider, position)
        race = list(self._races[position])
        race[place - 1] = None
        return self.with_race_at(position, without_last_none(race))

    def __eq__(self, other):
        return isinstance(other, Season) and self._riders == other._riders and self._races == other._races

    def __repr__(self):
        return f"Season({self._riders!r}, {self._races!r})"
