import operator
import unittest
from fractions import Fraction
from itertools import product
from math import gcd

from anypoints.errors import DividedByZero, InvalidNumber
from anypoints.families import Family
from anypoints.ratios import Ratio, is_count, is_integer, is_name, is_number
from anypoints.tables import Table
from tests.helpers import BIG, Case, no_integers, no_numbers

PAIRS = [(0, 1), (0, -7), (1, 1), (-1, 1), (1, -1), (6, 4), (-6, 4), (6, -4), (-6, -4), (1, 3), (-5, 3),
         (BIG, 1), (-BIG, 7), (3, BIG), (BIG, BIG - 1), (BIG, -BIG)]
WHOLE = [-BIG, -4, -1, 0, 1, 3, BIG]


def fraction(value):
    """The NUMBER as a fraction of Python's own."""
    if isinstance(value, Ratio):
        return Fraction(value.top, value.bottom)
    return Fraction(value)


class KindsTest(Case):
    def test_integers(self):
        for value in [0, 1, -1, BIG, -BIG]:
            self.assertIs(is_integer(value), True)
        for value in no_integers():
            self.assertIs(is_integer(value), False)

    def test_counts(self):
        for value in [0, 1, BIG]:
            self.assertIs(is_count(value), True)
        for value in [-1, -BIG, *no_integers()]:
            self.assertIs(is_count(value), False)

    def test_numbers(self):
        for value in [0, 1, -1, BIG, -BIG, Ratio(0), Ratio(1), Ratio(-1, 2)]:
            self.assertIs(is_number(value), True)
        for value in [*no_numbers(), Ratio]:
            self.assertIs(is_number(value), False)

    def test_names(self):
        for value in ["a", "z", "ab", "abcdefgh", "zzzzzzzz", "none"]:
            self.assertIs(is_name(value), True)
        wrong = ["", "abcdefghi", "A", "aB", "a b", " a", "a ", "a\n", "\n", "a1", "1", "-", "_a", "a-b", "a`", "a{",
                 "a" * 100]
        for value in wrong + [None, True, False, 0, 1, b"a", ["a"], ("a",), {"a": 1}, [], (), {}, Ratio(1), object()]:
            self.assertIs(is_name(value), False, repr(value))

    def test_by_name(self):
        self.assertEqual([is_integer(value=1), is_count(value=-1), is_number(value=None), is_name(value="a")],
                         [True, False, False, True])


class RatioTest(Case):
    def test_lowest_terms(self):
        for top, bottom in PAIRS:
            one = Ratio(top, bottom)
            self.assertIs(type(one.top), int)
            self.assertIs(type(one.bottom), int)
            self.assertEqual(Fraction(top, bottom), fraction(one))
            self.assertGreaterEqual(one.bottom, 1)
            self.assertEqual(gcd(one.top, one.bottom), 1)

    def test_told_by_one_number(self):
        self.assertEqual([(Ratio(n).top, Ratio(n).bottom) for n in WHOLE], [(n, 1) for n in WHOLE])

    def test_by_name(self):
        self.assertEqual(Ratio(top=2, bottom=4), Ratio(1, 2))
        self.assertEqual(Ratio(top=3), Ratio(3))
        self.assertEqual(Ratio(1).over(other=2), Ratio(1, 2))
        self.assertIs(Ratio(1).is_below(other=2), True)

    def test_sign(self):
        for top, bottom in PAIRS:
            value = Fraction(top, bottom)
            found = Ratio(top, bottom).sign
            self.assertIs(type(found), int)
            self.assertEqual(found, (value > 0) - (value < 0))

    def test_properties_are_not_assigned(self):
        one = Ratio(1, 2)
        for name in ["top", "bottom", "sign"]:
            with self.assertRaises(AttributeError):
                setattr(one, name, 5)
        self.assertEqual(one, Ratio(1, 2))

    def test_wrong_top_or_bottom(self):
        for value in no_integers():
            self.assertFails(InvalidNumber, {"value": value}, Ratio, value)
            self.assertFails(InvalidNumber, {"value": value}, Ratio, 1, value)
            self.assertFails(InvalidNumber, {"value": value}, Ratio, value, 0)
            self.assertFails(InvalidNumber, {"value": value}, Ratio, value, None)
        self.assertFails(InvalidNumber, {"value": 0}, Ratio, 1, 0)
        self.assertFails(InvalidNumber, {"value": 0}, Ratio, 0, 0)
        self.assertFails(InvalidNumber, {"value": "a"}, Ratio, "a", "b")
        self.assertFails(InvalidNumber, {"value": False}, Ratio, top=1, bottom=False)

    def test_sums_differences_products(self):
        for sign in [operator.add, operator.sub, operator.mul]:
            for one, other in product(PAIRS, PAIRS):
                found = sign(Ratio(*one), Ratio(*other))
                self.assertIs(type(found), Ratio)
                self.assertEqual(fraction(found), sign(Fraction(*one), Fraction(*other)))
                self.assertEqual(gcd(found.top, found.bottom), 1)
            for one, whole in product(PAIRS, WHOLE):
                self.assertEqual(fraction(sign(Ratio(*one), whole)), sign(Fraction(*one), whole))
                self.assertEqual(fraction(sign(whole, Ratio(*one))), sign(whole, Fraction(*one)))
                self.assertIs(type(sign(Ratio(*one), whole)), Ratio)
                self.assertIs(type(sign(whole, Ratio(*one))), Ratio)

    def test_wrong_value_beside_a_sign(self):
        one = Ratio(1, 2)
        for sign in [operator.add, operator.sub, operator.mul]:
            for value in no_numbers():
                self.assertFails(InvalidNumber, {"value": value}, sign, one, value)
            for value in [True, False, None]:
                self.assertFails(InvalidNumber, {"value": value}, sign, value, one)
        self.assertEqual(one, Ratio(1, 2))

    def test_minus(self):
        for one in PAIRS:
            self.assertEqual(fraction(-Ratio(*one)), -Fraction(*one))

    def test_operands_stay(self):
        one, other = Ratio(1, 2), Ratio(2, 3)
        for _ in range(2):
            found = [one + other, one - other, one * other, -one, 1 - one, one.over(other), Ratio.total(one, other)]
            self.assertEqual([str(part) for part in found], ["7/6", "-1/6", "1/3", "-1/2", "1/2", "3/4", "7/6"])
        self.assertEqual([one, other], [Ratio(1, 2), Ratio(2, 3)])

    def test_over(self):
        for one, other in product(PAIRS, PAIRS):
            if other[0] == 0:
                self.assertFails(DividedByZero, {}, Ratio(*one).over, Ratio(*other))
            else:
                self.assertEqual(fraction(Ratio(*one).over(Ratio(*other))), Fraction(*one) / Fraction(*other))
        for one, whole in product(PAIRS, WHOLE):
            if whole == 0:
                self.assertFails(DividedByZero, {}, Ratio(*one).over, whole)
            else:
                self.assertEqual(fraction(Ratio(*one).over(whole)), Fraction(*one) / whole)
        for value in no_numbers():
            self.assertFails(InvalidNumber, {"value": value}, Ratio(0).over, value)

    def test_is_below(self):
        for one, other in product(PAIRS, PAIRS):
            self.assertIs(Ratio(*one).is_below(Ratio(*other)), Fraction(*one) < Fraction(*other))
        for one, whole in product(PAIRS, WHOLE):
            self.assertIs(Ratio(*one).is_below(whole), Fraction(*one) < whole)
        for value in no_numbers():
            self.assertFails(InvalidNumber, {"value": value}, Ratio(0).is_below, value)

    def test_total(self):
        self.assertEqual(repr(Ratio.total()), "Ratio(0, 1)")
        self.assertEqual(repr(Ratio.total(3)), "Ratio(3, 1)")
        self.assertEqual(repr(Ratio.total(Ratio(1, 2), -1, Ratio(1, 3), 0)), "Ratio(-1, 6)")
        self.assertEqual(repr(Ratio.total(BIG, Ratio(1, 2), -BIG)), "Ratio(1, 2)")
        for value in no_numbers():
            self.assertFails(InvalidNumber, {"value": value}, Ratio.total, value)
            self.assertFails(InvalidNumber, {"value": value}, Ratio.total, 1, Ratio(1, 2), value, "later")

    def test_equal(self):
        self.assertTrue(Ratio(2, 4) == Ratio(-1, -2))
        self.assertFalse(Ratio(2, 4) != Ratio(1, 2))
        self.assertFalse(Ratio(1, 2) == Ratio(1, 3))
        self.assertFalse(Ratio(1, 2) == Ratio(3, 2))
        self.assertTrue(Ratio(0, 5) == Ratio(0, -3))
        for value in [1, True, None, "1", (1, 1), [1], Fraction(1), Table(1), Family(1)]:
            self.assertFalse(Ratio(1) == value)
            self.assertFalse(value == Ratio(1))
            self.assertTrue(Ratio(1) != value)

    def test_texts(self):
        told = [Ratio(1, 2), Ratio(-4, 6), Ratio(3), Ratio(0, -9), Ratio(6, -2), Ratio(BIG, 2)]
        self.assertEqual([str(one) for one in told], ["1/2", "-2/3", "3", "0", "-3", str(BIG) + "/2"])
        self.assertEqual([repr(one) for one in told],
                         ["Ratio(1, 2)", "Ratio(-2, 3)", "Ratio(3, 1)", "Ratio(0, 1)", "Ratio(-3, 1)",
                          "Ratio(" + str(BIG) + ", 2)"])


if __name__ == "__main__":
    unittest.main()
