import random
import unittest
from fractions import Fraction
from itertools import product

from anypoints.ratios import Ratio
from anypoints.solving import solution_of
from tests.helpers import BIG, Case


class SolutionTest(Case):
    def check(self, columns, target, found):
        self.assertEqual(len(found), len(columns))
        for number in found:
            self.assertIs(type(number), Ratio)
            self.assertGreaterEqual(number.sign, 0)
        numbers = [Fraction(number.top, number.bottom) for number in found]
        for at in range(len(target)):
            self.assertEqual(sum(number * column[at] for number, column in zip(numbers, columns)), target[at])

    def test_told_ones(self):
        self.assertEqual(solution_of([[2, 0], [0, 3]], [3, 3]), [Ratio(3, 2), Ratio(1)])
        self.assertEqual(solution_of([[1, 1], [1, 1]], [0, 0]), [Ratio(0), Ratio(0)])
        self.assertEqual(solution_of([[-2]], [-3]), [Ratio(3, 2)])
        self.assertIsNone(solution_of([[2]], [-3]))
        self.assertIsNone(solution_of([[1, 2]], [1, 1]))
        self.assertIsNone(solution_of([[0, 0], [1, 1]], [0, 1]))
        self.assertIsNone(solution_of([], [1]))
        self.assertEqual(solution_of([], [0, 0]), [])
        self.assertEqual(solution_of([[BIG, 1], [1 - BIG, -1]], [1, 0]), [Ratio(1), Ratio(1)])

    def test_equal_rows(self):
        self.assertEqual(solution_of([[1, 1, 1], [0, 0, 1]], [2, 2, 5]), [Ratio(2), Ratio(3)])
        self.assertIsNone(solution_of([[1, 1, 1], [0, 0, 1]], [2, 2, 1]))
        self.assertIsNone(solution_of([[1, 1], [2, 2]], [2, 3]))

    def test_sums_of_columns(self):
        draw = random.Random(21)
        for size in [1, 3, 10 ** 12] * 120:
            columns = [[draw.randint(-size, size) for _ in range(draw.choice([4]))] for _ in range(draw.randint(1, 7))]
            target = [0] * 4
            for column in columns:
                times = max(0, draw.randint(-3, 4))
                target = [a + times * b for a, b in zip(target, column)]
            self.check(columns, target, solution_of(columns, target))

    def test_small_columns_by_turning_ways(self):
        # In two rows there is no sum just where some way has a product at least 0 with all columns, and below 0 with
        # the target; of such ways it is enough to look at those that are square to a column or lie on one.
        numbers = [0, 0]
        draw = random.Random(22)
        for _ in range(600):
            columns = [[draw.randint(-2, 2), draw.randint(-2, 2)] for _ in range(draw.randint(1, 4))]
            target = [draw.randint(-2, 2), draw.randint(-2, 2)]
            ways = list(product(range(-9, 10), repeat=2))
            barred = any(x * target[0] + y * target[1] < 0 and all(x * a + y * b >= 0 for a, b in columns)
                         for x, y in ways)
            found = solution_of(columns, target)
            self.assertEqual(found is None, barred)
            if found is not None:
                self.check(columns, target, found)
            numbers[barred] += 1
        self.assertGreater(min(numbers), 100)

    def test_nothing_changes(self):
        columns, target = [[1, -1], [0, 2]], (-1, 3)
        self.assertIsNone(solution_of(columns, target))
        self.assertEqual([columns, target], [[[1, -1], [0, 2]], (-1, 3)])


if __name__ == "__main__":
    unittest.main()
