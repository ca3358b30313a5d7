"""Texts of seasons and families, and which line of a text is wrong."""

from anypoints.errors import InvalidText
from anypoints.families import Family, check_family
from anypoints.ratios import is_name
from anypoints.seasons import Season, check_season, is_race_of
from anypoints.tables import PLACES
from anypoints.words import integer_of, is_integer_word, race_told, race_words


def written(lines):
    """The text of the lines, lists of words."""
    return "".join([" ".join(words) + "\n" for words in lines])


def season_text(season):
    """The text of the season."""
    check_season(season)
    riders = [["rider", rider] for rider in season.riders()]
    return written(riders + [["race"] + race_words(race) for race in season.races()])


def family_text(family):
    """The text of the family."""
    check_family(family)
    sayings = [[str(number) for number in saying] for saying in family.sayings()]
    return written([["pays", str(family.paid)]] + [["say"] + numbers for numbers in sayings])


def pieces_of(text):
    """The lines of the text that have a line feed, and what stands behind the last one of these."""
    if not isinstance(text, str):
        raise InvalidText(None)
    return text.split("\n")


def is_rider_line(words, riders):
    """Whether a right text can have this line behind those of the riders, and ahead of all races."""
    if len(words) != 2 or words[0] != "rider" or not is_name(words[1]) or len(riders) == Season.MOST_RIDERS:
        return False
    return len(riders) == 0 or riders[-1] < words[1]


def is_race_line(words, riders, races):
    """Whether a right text can have this line behind those of the riders and races."""
    if words[0] != "race" or len(riders) == 0 or len(races) == Season.MOST_RACES:
        return False
    return is_race_of(riders, race_told(words[1:]))


def read_season(text):
    """The season with this text."""
    pieces = pieces_of(text)
    riders = []
    races = []
    for number, line in enumerate(pieces[:-1], start=1):
        words = line.split(" ")
        if len(races) == 0 and is_rider_line(words, riders):
            riders.append(words[1])
        elif is_race_line(words, riders, races):
            races.append(race_told(words[1:]))
        else:
            raise InvalidText(number)
    # The last piece is a line without a line feed, if it is one at all.
    if pieces[-1] != "" or len(riders) == 0:
        raise InvalidText(len(pieces))
    return Season(riders, races)


def is_paid_line(words):
    """Whether the line tells how many places a family pays."""
    return len(words) == 2 and words[0] == "pays" and words[1] in [str(k) for k in range(1, PLACES + 1)]


def is_saying_line(words, sayings):
    """Whether a right text can have this line behind those of the sayings."""
    if words[0] != "say" or len(words) != PLACES + 1 or len(sayings) == Family.MOST_SAYINGS:
        return False
    return all([is_integer_word(word) for word in words[1:]]) and any([word != "0" for word in words[1:]])


def read_family(text):
    """The family with this text."""
    pieces = pieces_of(text)
    paid = None
    sayings = []
    for number, line in enumerate(pieces[:-1], start=1):
        words = line.split(" ")
        if paid is None and is_paid_line(words):
            paid = integer_of(words[1])
        elif paid is not None and is_saying_line(words, sayings):
            sayings.append(tuple([integer_of(word) for word in words[1:]]))
        else:
            raise InvalidText(number)
    if pieces[-1] != "" or paid is None:
        raise InvalidText(len(pieces))
    return Family(paid, *sayings)
