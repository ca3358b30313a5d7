import operator
import unittest
from fractions import Fraction
from itertools import product
from math import gcd

from anypoints.errors import InvalidNumber, InvalidPlace, InvalidPoints, InvalidTable
from anypoints.families import Family
from anypoints.ratios import Ratio
from anypoints.tables import Table
from tests.helpers import BIG, Case, fractions, no_integers, no_numbers, no_places, no_tables

HALF = Ratio(1, 2)


def sample():
    """Tables of many kinds."""
    return [Table(1), Table(3, 2, 1), Table(1, 1, 1, 1, 1), Table(25, 18, 15, 12, 10), Table(HALF), Table(6, 4, 2),
            Table(Ratio(3, 2), 1, HALF), Table(2, 0, 0), Table(5, 5, Ratio(7, 3), 0, 0), Table(BIG, BIG - 1, 1),
            Table(Ratio(BIG, 7), Ratio(2, BIG)), Table(9, 3), Table(Ratio(3, 4), Ratio(1, 4))]


def plain(table):
    return fractions(table.points())


class TableTest(Case):
    def test_points(self):
        self.assertEqual(plain(Table(3, 2, 1)), [3, 2, 1, 0, 0])
        self.assertEqual(plain(Table(Ratio(7, 2))), [Fraction(7, 2), 0, 0, 0, 0])
        self.assertEqual(plain(Table(5, Ratio(9, 2), 4, HALF, HALF)), [5, Fraction(9, 2), 4] + [Fraction(1, 2)] * 2)
        self.assertEqual(plain(Table(2, 0, 0, 0, 0)), [2, 0, 0, 0, 0])
        self.assertEqual(plain(Table(BIG, BIG)), [BIG, BIG, 0, 0, 0])
        for table in sample():
            for point in table.points() + table.steps():
                self.assertIs(type(point), Ratio)

    def test_how_many_points(self):
        self.assertFails(InvalidPoints, {"position": None}, Table)
        self.assertFails(InvalidPoints, {"position": None}, Table, 6, 5, 4, 3, 2, 1)
        self.assertFails(InvalidPoints, {"position": None}, Table, 6, 5, 4, 3, 2, None)
        self.assertFails(InvalidPoints, {"position": None}, Table, None, True, 9, 10, -2, 1)
        self.assertFails(InvalidPoints, {"position": None}, Table, 1, 0, 0, 0, 0, 0)

    def test_wrong_points(self):
        for value in no_numbers() + [-1, -BIG, Ratio(-1, 3)]:
            self.assertFails(InvalidPoints, {"position": 0}, Table, value)
            self.assertFails(InvalidPoints, {"position": 1}, Table, 3, value)
            self.assertFails(InvalidPoints, {"position": 4}, Table, 3, 3, 3, 3, value)
            self.assertFails(InvalidPoints, {"position": 2}, Table, 3, 3, value, 4)
        self.assertFails(InvalidPoints, {"position": 0}, Table, 0)
        self.assertFails(InvalidPoints, {"position": 0}, Table, Ratio(0), 0, 0)
        self.assertFails(InvalidPoints, {"position": 0}, Table, 0, 1)
        self.assertFails(InvalidPoints, {"position": 0}, Table, [3, 2, 1])
        self.assertFails(InvalidPoints, {"position": 1}, Table, 1, 2)
        self.assertFails(InvalidPoints, {"position": 1}, Table, 1, Ratio(BIG, BIG - 1))
        self.assertFails(InvalidPoints, {"position": 2}, Table, 1, 0, Ratio(1, BIG))
        self.assertFails(InvalidPoints, {"position": 1}, Table, 2, 3, "x", -1)
        self.assertFails(InvalidPoints, {"position": 3}, Table, 2, 2, 1, 2, None)

    def test_of_steps(self):
        self.assertEqual(plain(Table.of_steps(1, 2)), [3, 2, 0, 0, 0])
        self.assertEqual(plain(Table.of_steps(0, 0, HALF)), [Fraction(1, 2)] * 3 + [0, 0])
        self.assertEqual(plain(Table.of_steps(1, 0, 2, 0, 3)), [6, 5, 5, 3, 3])
        self.assertEqual(plain(Table.of_steps(4)), [4, 0, 0, 0, 0])
        self.assertEqual(plain(Table.of_steps(0, 0, 0, 0, BIG)), [BIG] * 5)
        self.assertEqual(plain(Table.of_steps(1, 0, 0)), [1, 0, 0, 0, 0])
        for table in sample():
            steps = table.steps()
            self.assertEqual(Table.of_steps(*steps), table)

    def test_wrong_steps(self):
        call = Table.of_steps
        self.assertFails(InvalidPoints, {"position": None}, call)
        self.assertFails(InvalidPoints, {"position": None}, call, 1, 1, 1, 1, 1, 1)
        self.assertFails(InvalidPoints, {"position": None}, call, 0, None, 1, 1, 1, -1)
        for many in range(1, 6):
            self.assertFails(InvalidPoints, {"position": None}, call, *([0] * many))
        self.assertFails(InvalidPoints, {"position": None}, call, Ratio(0), 0)
        for value in no_numbers() + [-1, -BIG, Ratio(-1, 3)]:
            self.assertFails(InvalidPoints, {"position": 0}, call, value)
            self.assertFails(InvalidPoints, {"position": 1}, call, 0, value)
            self.assertFails(InvalidPoints, {"position": 2}, call, 1, 5, value, None, -1)
            self.assertFails(InvalidPoints, {"position": 4}, call, 0, 0, 0, 0, value)

    def test_first_places(self):
        for k in range(1, 6):
            self.assertEqual(plain(Table.first_places(k)), [1] * k + [0] * (5 - k))
            self.assertEqual(Table.first_places(k=k).paid, k)
        for value in no_places():
            self.assertFails(InvalidNumber, {"value": value}, Table.first_places, value)

    def test_steep(self):
        self.assertEqual(plain(Table.steep(3, 4)), [27, 9, 3, 1, 0])
        self.assertEqual(plain(Table.steep(2, 1)), [1, 0, 0, 0, 0])
        self.assertEqual(plain(Table.steep(10, 5)), [10000, 1000, 100, 10, 1])
        self.assertEqual(plain(Table.steep(s=BIG, k=5)), [BIG ** 4, BIG ** 3, BIG ** 2, BIG, 1])
        for k in range(1, 6):
            self.assertEqual(Table.steep(1, k), Table.first_places(k))
        for value in no_integers() + [0, -1, -BIG]:
            self.assertFails(InvalidNumber, {"value": value}, Table.steep, value, 2)
            self.assertFails(InvalidNumber, {"value": value}, Table.steep, value, 0)
        for value in no_places():
            self.assertFails(InvalidNumber, {"value": value}, Table.steep, 2, value)
        self.assertFails(InvalidNumber, {"value": 7}, Table.steep, k=7, s=1)

    def test_steps(self):
        for table in sample():
            points = plain(table) + [Fraction(0)]
            self.assertEqual(fractions(table.steps()), [points[p] - points[p + 1] for p in range(5)])

    def test_sum_of_first_places(self):
        for table in sample():
            added = None
            for k, step in enumerate(table.steps(), 1):
                if step.sign > 0:
                    part = Table.first_places(k) * step
                    added = part if added is None else added + part
            self.assertEqual(added, table)

    def test_place(self):
        for table in sample():
            self.assertEqual([table[place] for place in range(1, 6)], table.points())
            for value in no_places():
                self.assertFails(InvalidPlace, {"value": value}, operator.getitem, table, value)

    def test_not_iterated_over(self):
        with self.assertRaises(TypeError):
            list(Table(3, 2, 1))

    def test_paid(self):
        self.assertEqual([table.paid for table in sample()], [1, 3, 5, 5, 1, 3, 3, 1, 3, 3, 2, 2, 2])
        self.assertEqual(Table(4, 3, 2, 1).paid, 4)
        with self.assertRaises(AttributeError):
            Table(1).paid = 2

    def test_is_like(self):
        for one, other in product(sample(), sample()):
            a, b = plain(one), plain(other)
            self.assertIs(one.is_like(other), all(a[p] * b[0] == b[p] * a[0] for p in range(5)))
        self.assertIs(Table(3, 2, 1).is_like(other=Table(Ratio(3, 2), 1, HALF)), True)
        self.assertIs(Table(3, 2, 1).is_like(Table(3, 2)), False)
        for value in no_tables():
            self.assertFails(InvalidTable, {"value": value}, Table(1).is_like, value)

    def test_reduced(self):
        self.assertEqual(repr(Table(6, 4, 2).reduced()), "Table(Ratio(3, 1), Ratio(2, 1), Ratio(1, 1))")
        self.assertEqual(plain(Table(Ratio(3, 4), Ratio(2, 3)).reduced()), [9, 8, 0, 0, 0])
        for table in sample():
            found = table.reduced()
            self.assertTrue(found.is_like(table))
            self.assertEqual([point.bottom for point in found.points()], [1] * 5)
            self.assertEqual(gcd(*[point.top for point in found.points()]), 1)

    def test_add(self):
        for one, other in product(sample(), sample()):
            self.assertEqual(plain(one + other), [a + b for a, b in zip(plain(one), plain(other))])
        one, other = Table(3, 1), Table(1)
        for value in no_tables():
            self.assertFails(InvalidTable, {"value": value}, operator.add, one, value)
        self.assertEqual([one + other, one, other], [Table(4, 1), Table(3, 1), Table(1)])

    def test_multiply(self):
        for table, number in product(sample(), [1, 2, BIG, HALF, Ratio(BIG, 3)]):
            times = Fraction(number.top, number.bottom) if isinstance(number, Ratio) else number
            self.assertEqual(plain(table * number), [times * point for point in plain(table)])
            self.assertIs(type(table * number), Table)
        self.assertEqual(3 * Table(2, 1), Table(6, 3))
        for value in no_numbers() + [0, -1, -BIG, Ratio(0), Ratio(-1, 2)]:
            self.assertFails(InvalidNumber, {"value": value}, operator.mul, Table(2, 1), value)
        for value in [0, -1, -BIG, True, False]:
            self.assertFails(InvalidNumber, {"value": value}, operator.mul, value, Table(2, 1))
        table = Table(2, 1)
        self.assertFails(InvalidNumber, {"value": table}, operator.mul, HALF, table)

    def test_equal(self):
        self.assertTrue(Table(3, 2) == Table(Ratio(6, 2), 2, 0, 0, 0))
        self.assertFalse(Table(3, 2) != Table(3, 2, 0))
        self.assertFalse(Table(3, 2) == Table(6, 4))
        self.assertFalse(Table(3, 2) == Table(3, 2, 1))
        for value in [1, None, (1,), [1], "Table(Ratio(1, 1))", Ratio(1), Family(1), Table]:
            self.assertFalse(Table(1) == value)
            self.assertFalse(value == Table(1))
            self.assertTrue(Table(1) != value)

    def test_repr(self):
        self.assertEqual(repr(Table(3, HALF)), "Table(Ratio(3, 1), Ratio(1, 2))")
        self.assertEqual(repr(Table(3, HALF, 0)), "Table(Ratio(3, 1), Ratio(1, 2))")
        self.assertEqual(repr(Table(1)), "Table(Ratio(1, 1))")
        for table in sample():
            self.assertEqual(eval(repr(table)), table)

    def test_returned_lists_are_new(self):
        table = Table(3, 2, 1)
        for call in [table.points, table.steps]:
            before = call()
            changed = call()
            changed.clear()
            changed.append("x")
            self.assertEqual(call(), before)
            self.assertIsNot(call(), call())
        self.assertEqual(table, Table(3, 2, 1))

    def test_nothing_changes(self):
        table = Table(3, 2, 1)
        for call in [lambda: table[0], lambda: table + 1, lambda: table * 0, lambda: 0 * table,
                     lambda: table.is_like(3)]:
            with self.assertRaises(ValueError):
                call()
        table.reduced()
        self.assertEqual(repr(table), "Table(Ratio(3, 1), Ratio(2, 1), Ratio(1, 1))")


if __name__ == "__main__":
    unittest.main()
