"""Numbers and races as they are written in texts and commands."""

from anypoints.ratios import Ratio

DIGITS = "0123456789"
NOBODY = "-"


def is_count_word(word):
    """Whether the word is a COUNT, decimal without leading zeros."""
    if len(word) == 0 or not all([letter in DIGITS for letter in word]):
        return False
    return word == "0" or word[0] != "0"


def is_integer_word(word):
    """Whether the word is an INTEGER, decimal without leading zeros, with a sign only if it is below 0."""
    if word.startswith("-"):
        return word != "-0" and is_count_word(word[1:])
    return is_count_word(word)


def integer_of(word):
    """The INTEGER that is written so, or None."""
    if not is_integer_word(word):
        return None
    return int(word)


def ratio_of(word):
    """The Ratio whose str the word is, or None."""
    top, slash, bottom = word.partition("/")
    if slash == "":
        bottom = "1"
    if not is_integer_word(top) or not is_integer_word(bottom) or bottom == "0":
        return None
    # A fraction that is not in lowest terms, or over 1, is no str of a Ratio.
    found = Ratio(int(top), int(bottom))
    if str(found) != word:
        return None
    return found


def race_words(race):
    """The words for the riders of the race."""
    return [NOBODY if rider is None else rider for rider in race]


def race_told(words):
    """What the words tell as a race."""
    return [None if word == NOBODY else word for word in words]
