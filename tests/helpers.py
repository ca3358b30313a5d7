"""What several tests need: values of wrong kinds, and a check of errors."""

import unittest
from fractions import Fraction

from anypoints.families import Family
from anypoints.ratios import Ratio
from anypoints.tables import Table

BIG = 10 ** 30 - 1


def no_numbers():
    """Values that are no NUMBERS, of many kinds."""
    return [True, False, None, "1", "", "1/2", b"1", (1,), (), [1], [], {1: 1}, {}, {1}, object(), Table(1), Family(1)]


def no_integers():
    return no_numbers() + [Ratio(1), Ratio(1, 2)]


def no_places():
    return no_integers() + [0, 6, -1, BIG, slice(1, 2)]


def no_tables():
    return [True, False, None, 0, 1, "Table(1)", (1, 0), [1], [1, 0, 0, 0, 0], {1: 1}, Ratio(1), Family(1), Table]


def no_families():
    return [True, False, None, 0, 1, 5, "all 5", (1,), [], {}, (5, (1, -2)), Ratio(1), Table(1), Family]


def fractions(ratios):
    """The Ratios as fractions of Python's own."""
    return [Fraction(one.top, one.bottom) for one in ratios]


class Case(unittest.TestCase):
    def assertFails(self, kind, values, call, *passed, **named):
        """Checks that the call raises just this error, with these values as attributes."""
        with self.assertRaises(kind) as caught:
            call(*passed, **named)
        self.assertIs(type(caught.exception), kind)
        told = vars(caught.exception)
        self.assertEqual(sorted(told), sorted(values))
        for name, value in values.items():
            self.assertIs(type(told[name]), type(value))
            if told[name] is not value:
                self.assertEqual(told[name], value)
