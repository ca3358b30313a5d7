"""Diaries: seasons that can be changed."""

from anypoints.errors import InvalidSeason
from anypoints.seasons import check_same_riders, check_season


def check_diary(diary):
    """Raises InvalidSeason unless the value is a Diary."""
    if not isinstance(diary, Diary):
        raise InvalidSeason(diary)


class Diary:
    """A season whose riders stay, and whose races can be put in, replaced and removed."""

    def __init__(self, season):
        check_season(season)
        # A Season never changes: each change of the diary puts another one in its place.
        self._season = season

    @property
    def season(self):
        """The season as it is now."""
        return self._season

    @season.setter
    def season(self, value):
        self.set_season(value)

    def set_season(self, season):
        """Puts the season, one of the same riders, in the place of that of the diary."""
        check_season(season)
        check_same_riders(self._season, season)
        self._season = season

    def __getitem__(self, at):
        return self._season[at]

    # Without this, Python would try the positions from 0 on.
    def __iter__(self):
        raise TypeError("a diary is not iterated over")

    def __setitem__(self, at, worth):
        self._season = self._season.with_race_at(at, worth)

    def cut(self, position):
        """Removes the race at the position."""
        self._season = self._season.without_race(position)

    def put(self, race):
        """Puts in one race more, at the end."""
        self._season = self._season.with_race(race)

    def __iadd__(self, other):
        self.put(other)
        return self

    def void(self, rider, position):
        """Voids the result of the rider in the race at the position."""
        self._season = self._season.voided(rider, position)

    def __len__(self):
        return len(self._season)

    def copy(self):
        """A new diary with this season."""
        return Diary(self._season)

    def each_race(self):
        """Yields all races as they are when the iteration begins."""
        races = self._season.races()
        for race in races:
            yield race


class Trial:
    """What is done to the diary in a block `with`: it stays only if no error leaves the block."""

    def __init__(self, diary):
        check_diary(diary)
        self._diary = diary
        self._before = diary.season

    def __enter__(self):
        self._before = self._diary.season
        return self._diary

    def __exit__(self, kind, value, trace):
        diary = self._diary
        if kind is not None:
            diary._season = self._before


def tried(diary, deed):
    """What the deed returns for the diary; if it raises an error, the season is again what it was."""
    with Trial(diary) as held:
        return deed(held)
