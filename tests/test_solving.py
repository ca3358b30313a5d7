import random
import unittest
from fractions import Fraction
from itertools import product

from anypoints.ratios import Ratio
from anypoints.solving import decided, numbers_or_weights, solution_of
from tests.helpers import BIG, Case, fractions


class SolutionTest(Case):
    def check(self, columns, target, found):
        self.assertEqual(len(found), len(columns))
        for number in found:
            self.assertIs(type(number), Ratio)
            self.assertGreaterEqual(number.sign, 0)
        numbers = [Fraction(number.top, number.bottom) for number in found]
        for at in range(len(target)):
            self.assertEqual(sum(number * column[at] for number, column in zip(numbers, columns)), target[at])

    def test_told_ones(self):
        self.assertEqual(solution_of([[2, 0], [0, 3]], [3, 3]), [Ratio(3, 2), Ratio(1)])
        self.assertEqual(solution_of([[1, 1], [1, 1]], [0, 0]), [Ratio(0), Ratio(0)])
        self.assertEqual(solution_of([[-2]], [-3]), [Ratio(3, 2)])
        self.assertIsNone(solution_of([[2]], [-3]))
        self.assertIsNone(solution_of([[1, 2]], [1, 1]))
        self.assertIsNone(solution_of([[0, 0], [1, 1]], [0, 1]))
        self.assertIsNone(solution_of([], [1]))
        self.assertEqual(solution_of([], [0, 0]), [])
        self.assertEqual(solution_of([[BIG, 1], [1 - BIG, -1]], [1, 0]), [Ratio(1), Ratio(1)])

    def test_equal_rows(self):
        self.assertEqual(solution_of([[1, 1, 1], [0, 0, 1]], [2, 2, 5]), [Ratio(2), Ratio(3)])
        self.assertIsNone(solution_of([[1, 1, 1], [0, 0, 1]], [2, 2, 1]))
        self.assertIsNone(solution_of([[1, 1], [2, 2]], [2, 3]))

    def test_sums_of_columns(self):
        draw = random.Random(21)
        for size in [1, 3, 10 ** 12] * 120:
            columns = [[draw.randint(-size, size) for _ in range(draw.choice([4]))] for _ in range(draw.randint(1, 7))]
            target = [0] * 4
            for column in columns:
                times = max(0, draw.randint(-3, 4))
                target = [a + times * b for a, b in zip(target, column)]
            self.check(columns, target, solution_of(columns, target))

    def test_small_columns_by_turning_ways(self):
        # In two rows there is no sum just where some way has a product at least 0 with all columns, and below 0 with
        # the target; of such ways it is enough to look at those that are square to a column or lie on one.
        numbers = [0, 0]
        draw = random.Random(22)
        for _ in range(600):
            columns = [[draw.randint(-2, 2), draw.randint(-2, 2)] for _ in range(draw.randint(1, 4))]
            target = [draw.randint(-2, 2), draw.randint(-2, 2)]
            ways = list(product(range(-9, 10), repeat=2))
            barred = any(x * target[0] + y * target[1] < 0 and all(x * a + y * b >= 0 for a, b in columns)
                         for x, y in ways)
            found = solution_of(columns, target)
            self.assertEqual(found is None, barred)
            if found is not None:
                self.check(columns, target, found)
            numbers[barred] += 1
        self.assertGreater(min(numbers), 100)

    def test_solution_or_bar(self):
        draw = random.Random(23)
        found = [0, 0]
        for size, many in product([1, 3, BIG], range(1, 200)):
            columns = [[draw.randint(-size, size) for _ in range(1 + many % 4)] for _ in range(draw.randint(0, 6))]
            target = [draw.randint(-size, size) for _ in range(1 + many % 4)]
            numbers, bar = decided(columns, target)
            found[bar is None] += 1
            self.assertEqual(solution_of(columns, target), numbers)
            if bar is None:
                self.check(columns, target, numbers)
                continue
            self.assertIsNone(numbers)
            self.assertEqual([type(number) for number in bar], [int] * len(target))
            self.assertGreater(sum(a * b for a, b in zip(bar, target)), 0)
            for column in columns:
                self.assertLessEqual(sum(a * b for a, b in zip(bar, column)), 0)
        self.assertGreater(min(found), 100)

    def test_nothing_changes(self):
        columns, target = [[1, -1], [0, 2]], (-1, 3)
        self.assertIsNone(solution_of(columns, target))
        self.assertEqual([columns, target], [[[1, -1], [0, 2]], (-1, 3)])


class RowsTest(Case):
    def test_numbers_or_weights(self):
        draw = random.Random(24)
        found = {}
        for size, _, bound in product([1, 3, BIG], range(150), [0, 1]):
            many = draw.randint(1, 6)
            rows = [[draw.randint(-size, size) for _ in range(many)] for _ in range(draw.randint(0, 5))]
            numbers, weights = numbers_or_weights(rows, many, bound)
            found[bound, weights is None] = found.get((bound, weights is None), 0) + 1
            if weights is None:
                told = fractions(numbers)
                self.assertEqual(len(told), many)
                self.assertGreaterEqual(min(told), 0)
                self.assertGreater(max(told), 0)
                for row in rows:
                    self.assertGreaterEqual(sum(a * b for a, b in zip(row, told)), Fraction(bound))
                continue
            self.assertIsNone(numbers)
            self.assertEqual([type(number) for number in weights], [int] * len(rows))
            self.assertGreaterEqual(min(weights), 0)
            self.assertGreater(max(weights), 0)
            for column in zip(*rows):
                self.assertLess(sum(a * b for a, b in zip(column, weights)), bound)
        self.assertEqual(len(found), 4)
        self.assertGreater(min(found.values()), 50)

    def test_told_ones(self):
        self.assertEqual(numbers_or_weights([], 2, 1), ([Ratio(1), Ratio(0)], None))
        self.assertEqual(numbers_or_weights([[0, 0]], 2, 0)[1], None)
        self.assertEqual(numbers_or_weights([[0, -5]], 2, 0)[1], None)
        self.assertIsNone(numbers_or_weights([[0, -5]], 2, 1)[0])
        self.assertIsNone(numbers_or_weights([[1, -1], [-1, 1]], 2, 1)[0])
        self.assertIsNone(numbers_or_weights([[1, -2], [-2, 1]], 2, 0)[0])


if __name__ == "__main__":
    unittest.main()
