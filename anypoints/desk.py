"""The desk: seasons and tables by their names, and commands about them."""

from anypoints.charts import chart_of
from anypoints.commands import FORMS, parsed
from anypoints.diaries import Diary
from anypoints.errors import (CommandFailed, LimitError, MissingError, NameTaken, NothingToUndo, PointsError,
                              StateError, UnknownName)
from anypoints.leads import is_sure, relation
from anypoints.ratios import is_name
from anypoints.seasons import Season
from anypoints.standings import points_of, standing
from anypoints.tables import Table
from anypoints.winners import all_who

DONE = "done"


def is_season_name(held, value):
    """Whether the value is a name of a season."""
    return is_name(value) and value in held and isinstance(held[value], Season)


def is_table_name(held, value):
    """Whether the value is a name of a table."""
    return is_name(value) and value in held and isinstance(held[value], Table)


def check_name(held, kind, name):
    """Raises NameTaken or UnknownName unless the name stands for what is due, if it is one of the desk's at all."""
    if kind == "new" and name in held:
        raise NameTaken(name)
    if kind == "held" and name not in held:
        raise UnknownName(name)
    if kind == "season" and not is_season_name(held, name):
        raise UnknownName(name)
    if kind == "table" and not is_table_name(held, name):
        raise UnknownName(name)


def with_season(held, name, riders):
    """What is held, and a season of the riders without races."""
    return {**held, name: Season(riders)}


def with_race(held, name, race):
    """What is held, the season with this race more."""
    return {**held, name: held[name].with_race(race)}


def with_void(held, name, rider, number):
    """What is held, the season without the rider's result in the race, counted from 1."""
    return {**held, name: held[name].voided(rider, number - 1)}


def with_table(held, name, points):
    """What is held, and a table of the points."""
    return {**held, name: Table(*points)}


def without_name(held, name):
    """What is held, but for what has this name."""
    return {other: held[other] for other in held if other != name}


def standing_told(held, name, table):
    """The riders of the standing, those with equal points joined."""
    lists = standing(chart_of(held[name]), held[table])
    return " ".join(["=".join(riders) for riders in lists])


def points_told(held, name, table, rider):
    """The points of the rider."""
    return str(points_of(chart_of(held[name]), held[table], rider))


def relation_told(held, name, one, rival, family):
    """The relation of one to the rival."""
    return relation(chart_of(held[name]), family, one, rival)


def firsts_told(held, name, family):
    """The riders that can be first."""
    return " ".join(all_who(chart_of(held[name]), family, "first"))


def sure_told(held, name, rider, left, family):
    """Whether the rider is sure, in a word."""
    if is_sure(chart_of(held[name]), family, rider, left):
        return "yes"
    return "no"


# The commands that can be taken back, and those that only ask.
CHANGES = {"season": with_season, "race": with_race, "void": with_void, "table": with_table, "drop": without_name}
QUESTIONS = {"standing": standing_told, "points": points_told, "relation": relation_told, "firsts": firsts_told,
             "sure": sure_told}


def done(held, past, command):
    """The answer to the command, what is held then, and what can be taken back then."""
    first, values = parsed(command)
    for kind, value in zip(FORMS[first], values):
        check_name(held, kind, value)
    if first in QUESTIONS:
        ask = QUESTIONS[first]
        return ask(held, *values), held, past
    if first in CHANGES:
        change = CHANGES[first]
        return DONE, change(held, *values), [*past, (command, held)]
    if len(past) == 0:
        raise NothingToUndo()
    return DONE, past[-1][1], past[:-1]


class Desk:
    """Seasons and tables by their names, which commands make, change and ask."""

    def __init__(self):
        # What is held, and each command that can be taken back with what was held before, are never changed
        # themselves: a command puts others in their place.
        self._held = {}
        self._past = []

    def do(self, *commands):
        """The answers to the commands, of which all are done, or none."""
        held = self._held
        past = self._past
        answers = []
        for position, command in enumerate(commands):
            try:
                answer, held, past = done(held, past, command)
            except (PointsError, MissingError, StateError, LimitError) as error:
                raise CommandFailed(position) from error
            answers.append(answer)
        self._held = held
        self._past = past
        return answers

    def names(self):
        """The names in use, sorted."""
        return sorted(self._held)

    def diary(self, name):
        """A copy of the diary with this name."""
        if not is_season_name(self._held, name):
            raise UnknownName(name)
        return Diary(self._held[name])

    def log(self):
        """The commands that can be taken back, in their sequence."""
        return [command for command, _ in self._past]
