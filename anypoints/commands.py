"""Commands of a desk: their words, and what these tell."""

from anypoints.errors import InvalidCommand
from anypoints.families import Family
from anypoints.ratios import is_name
from anypoints.tables import is_place
from anypoints.words import integer_of, race_told, ratio_of

# For each command what its words tell, in their sequence.
FORMS = {
    "season": ("new", "riders"),
    "race": ("season", "race"),
    "void": ("season", "rider", "number"),
    "table": ("new", "points"),
    "drop": ("held",),
    "undo": (),
    "standing": ("season", "table"),
    "points": ("season", "table", "rider"),
    "relation": ("season", "rider", "rider", "family"),
    "firsts": ("season", "family"),
    "sure": ("season", "rider", "number", "family"),
}

# What takes all words that are left, be they many or few.
LONG = ("riders", "race", "points")


def riders_from(words):
    """The riders that the words tell, at least one, or None."""
    if len(words) == 0 or not all([is_name(word) for word in words]):
        return None
    return words


def race_from(words):
    """The race that the words tell, or None; whose race it can be plays no part."""
    race = race_told(words)
    if not all([rider is None or is_name(rider) for rider in race]):
        return None
    return race


def points_from(words):
    """The points that the words tell, at least one, or None."""
    points = [ratio_of(word) for word in words]
    if len(points) == 0 or any([point is None for point in points]):
        return None
    return points


def family_from(words):
    """The family that the two words tell, or None."""
    if len(words) != 2:
        return None
    paid = integer_of(words[1])
    if not is_place(paid):
        return None
    if words[0] == "all":
        return Family(paid)
    if words[0] == "shrinking":
        return Family.shrinking(paid)
    if words[0] == "doubling":
        return Family.doubling(paid)
    return None


def told_by(kind, words):
    """What the words tell where this kind of thing is due, or None."""
    if kind == "riders":
        return riders_from(words)
    if kind == "race":
        return race_from(words)
    if kind == "points":
        return points_from(words)
    if kind == "family":
        return family_from(words)
    if len(words) != 1:
        return None
    if kind == "number":
        return integer_of(words[0])
    if not is_name(words[0]):
        return None
    return words[0]


def width_of(kind, words):
    """How many of the words that are left tell this kind of thing."""
    if kind in LONG:
        return len(words)
    if kind == "family":
        return 2
    return 1


def values_of(form, words):
    """What the words tell in this form, or None."""
    found = []
    rest = words
    for kind in form:
        width = width_of(kind, rest)
        value = told_by(kind, rest[:width])
        if value is None:
            return None
        found.append(value)
        rest = rest[width:]
    if len(rest) > 0:
        return None
    return found


def parsed(command):
    """The first word of the command, and what the others tell."""
    if not isinstance(command, str):
        raise InvalidCommand(command)
    first, *words = command.split(" ")
    if first not in FORMS:
        raise InvalidCommand(command)
    values = values_of(FORMS[first], words)
    if values is None:
        raise InvalidCommand(command)
    return first, values
