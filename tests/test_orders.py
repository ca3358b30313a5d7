import random
import unittest
from itertools import permutations, product
from operator import mul

from anypoints.charts import Chart
from anypoints.errors import InvalidChart, InvalidFamily, InvalidOrder, InvalidTable
from anypoints.families import Family
from anypoints.orders import all_orders, are_weights, does_come, is_order, order_table, weights_against
from anypoints.ratios import Ratio
from anypoints.standings import standing
from anypoints.tables import Table
from tests.helpers import (BIG, Case, drawn_charts, fractions, inside, no_charts, no_families, no_names, no_numbers,
                           no_tables, points, some_families)
from tests.test_families import plain_corners
from tests.test_mixes import TABLES, fraction, year_chart
from tests.test_winners import AT_ONE_POINT, BETWEEN_THREE, SPECIAL, small_tables

FREE = Family(5)


def no_orders():
    """Values that are no orders of the riders a, b, c and d, of many kinds."""
    return [None, True, 0, 4, "abcd", "a b c d", b"abcd", [], (), ["a"], ["a", "b", "c"], ["a", "b", "c", "d", "e"],
            ["a", "b", "c", "c"], ["a", "b", "c", "d", "d"], ["a", "b", "c", None], ["a", "b", "c", "D"],
            ["a", "b", "c", ["d"]], [["a", "b", "c", "d"]], [("a",), "b", "c", "d"], ["a", "b", "c", {"d": 1}],
            [1, 2, 3, 4], [True, "b", "c", "d"], {"a": 1, "b": 2, "c": 3, "d": 4}, {"a", "b", "c", "d"},
            iter(["a", "b", "c", "d"]), ["abcd"], [["a"], ["b"], ["c"], ["d"]], Ratio(4), Table(1), Family(4),
            year_chart(), object()]


def no_weights():
    """Values that are no weights for an order of four riders, of many kinds."""
    told = [[], [1], [1, 1], [1, 1, 1, 1], (), (1, 1), [0, 0, 0], (Ratio(0), 0, 0), [1, 1, -1], [1, 1, Ratio(-1, 9)],
            {0: 1, 1: 1, 2: 1}, {1, 2, 3}, "111", b"111", range(1, 4), iter([1, 1, 1]), [[1], [1], [1]], [[1, 1, 1]],
            None, True, 1, 3, Ratio(3), Table(1, 1, 1), Family(3), year_chart(), object()]
    return told + [[1, value, 1] for value in no_numbers()] + [(value, 1, 1) for value in no_numbers()]


def comes(told, order):
    """Whether each rider has more of these points than the next one."""
    return all(told[one] > told[other] for one, other in zip(order, order[1:]))


def corner_points(chart, family):
    """For each corner, found in the test's own way, the points of the riders."""
    corners = plain_corners(family.paid, family.sayings())
    return [{rider: sum(map(mul, chart[rider], corner)) for rider in chart.riders()} for corner in corners]


def do_bar(chart, family, order, numbers):
    """Whether the numbers, one for each rider but the last one, bar the order, as the document says it."""
    if not any(numbers) or min(numbers) < 0 or len(numbers) != len(order) - 1:
        return False
    return all(sum((told[one] - told[other]) * number for one, other, number in zip(order, order[1:], numbers)) <= 0
               for told in corner_points(chart, family))


class OrderCase(Case):
    def judged(self, chart, family, order):
        """Checks that just one of a table and weights shows the truth; whether it is a table."""
        table = order_table(chart=chart, family=family, order=order)
        weights = weights_against(chart=chart, family=family, order=order)
        self.assertEqual([table, weights], [order_table(chart, family, order), weights_against(chart, family, order)])
        if table is not None:
            self.assertIsNone(weights)
            self.assertInside(table, family)
            self.assertTrue(comes({rider: points(chart, table, rider) for rider in order}, order))
            self.assertIs(does_come(chart, table, order), True)
            return True
        self.assertIs(type(weights), list)
        self.assertEqual({type(weight) for weight in weights}, {Ratio})
        self.assertTrue(do_bar(chart, family, order, fractions(weights)))
        self.assertIs(are_weights(chart, family, order, weights), True)
        return False


class IsOrderTest(Case):
    def test_orders(self):
        for many in range(1, 5):
            chart = Chart({rider: [] for rider in "abcd"[:many]})
            for order in permutations(chart.riders()):
                self.assertIs(is_order(chart, order), True)
                self.assertIs(is_order(chart=chart, value=list(order)), True)

    def test_no_orders(self):
        for value in no_orders():
            self.assertIs(is_order(year_chart(), value), False, repr(value))
        for value in no_names() + ["z"]:
            self.assertIs(is_order(year_chart(), ["a", "b", "c", value]), False)
            self.assertIs(is_order(Chart({"a": []}), [value]), False)
        self.assertIs(is_order(Chart({"a": []}), "a"), False)
        self.assertIs(is_order(Chart({"a": []}), ["a", "a"]), False)

    def test_errors(self):
        for value in no_charts():
            self.assertFailsAlike(InvalidChart, {"value": value}, is_order, chart=value, value=["a"])


class ComingTest(OrderCase):
    def test_by_points(self):
        for chart, table in product([year_chart()] + drawn_charts(101, 30, 2), TABLES):
            told = {rider: points(chart, table, rider) for rider in chart.riders()}
            for order in list(permutations(chart.riders()))[:60]:
                self.assertIs(does_come(chart, table, order), comes(told, order))
                self.assertIs(does_come(chart=chart, table=table, order=list(order)), comes(told, order))

    def test_told_ones(self):
        chart = year_chart()
        self.assertIs(does_come(chart, Table(3, 2, 1), ["b", "a", "c", "d"]), True)
        self.assertIs(does_come(chart, Table(3, 2, 1), ["a", "b", "c", "d"]), False)
        self.assertIs(does_come(chart, Table(3, 2), ["b", "a", "c", "d"]), True)
        self.assertIs(does_come(chart, Table(4, 2), ["b", "a", "c", "d"]), False)
        self.assertIs(does_come(Chart({"a": []}), Table(1), ["a"]), True)

    def test_just_one_paper(self):
        found = [0, 0]
        for family in some_families():
            for chart in [year_chart()] + SPECIAL[:9] + drawn_charts(102, 4, 3, 3):
                orders = list(permutations(chart.riders()))
                for order in random.Random(103).sample(orders, min(len(orders), 12)):
                    found[self.judged(chart, family, order)] += 1
        self.assertGreater(min(found), 150)

    def test_between_three_corners(self):
        for order in permutations("bcd"):
            self.assertIs(self.judged(BETWEEN_THREE, Family(3), ["a", *order]), True)
            self.assertIs(self.judged(BETWEEN_THREE, Family(2), ["a", *order]), False)
            self.assertIs(self.judged(AT_ONE_POINT, Family(3), ["a", *order]), False)

    def test_large_numbers(self):
        draw = random.Random(104)
        for family in [FREE, Family(5, (BIG, 1 - BIG)), Family(3, (1 - BIG, BIG), (1, 0, -2))]:
            for _ in range(3):
                chart = Chart({rider: [draw.randint(0, BIG) for _ in range(5)] for rider in "abcdef"})
                for _ in range(20):
                    self.judged(chart, family, draw.sample("abcdef", 6))

    def test_equal_rows(self):
        chart = Chart({"a": [2, 1], "b": [1, 1], "c": [1, 1], "d": []})
        for family, order in product(some_families(), permutations("abcd")):
            self.assertIs(self.judged(chart, family, order), False)
        self.assertIs(self.judged(chart.without("b"), FREE, ["a", "c", "d"]), True)

    def test_one_rider(self):
        for family, row in product(some_families(), [[], [1], [0, BIG]]):
            self.assertIs(self.judged(Chart({"a": row}), family, ["a"]), True)
            for value in [[], (), [1], [0], None] + no_weights():
                self.assertIs(are_weights(Chart({"a": row}), family, ["a"], value), False)

    def test_small_tables_one_by_one(self):
        for family in [Family(3), Family(3, (1, -2)), Family(4, (-2, 3)), FREE]:
            tables = small_tables(family, 5)
            for chart in drawn_charts(105, 6, 3, 3):
                if len(chart) > 4:
                    continue
                told = [{rider: sum(map(mul, chart[rider], table)) for rider in chart.riders()} for table in tables]
                for order in permutations(chart.riders()):
                    if order_table(chart, family, order) is None:
                        self.assertFalse(any(comes(by_table, order) for by_table in told))


class WeightsTest(Case):
    def test_told_and_multiplied(self):
        chart, order = year_chart(), ["a", "c", "b", "d"]
        self.assertIs(are_weights(chart, FREE, order, [0, 1, 0]), True)
        self.assertIs(are_weights(chart=chart, family=FREE, order=order, value=(0, Ratio(1, BIG), 0)), True)
        self.assertIs(are_weights(chart, FREE, order, [1, 0, 0]), False)
        self.assertIs(are_weights(chart, FREE, tuple(order), [0, 1, Ratio(1, 5)]), True)
        self.assertIs(are_weights(chart, FREE, tuple(order), [0, 1, 3]), False)

    def test_by_sums_at_the_corners(self):
        draw = random.Random(106)
        found = [0, 0]
        for family in some_families():
            for chart in [year_chart()] + drawn_charts(107, 6, 2, 2):
                for _ in range(8):
                    order = draw.sample(chart.riders(), len(chart))
                    value = [draw.choice([0, 0, 1, 2, Ratio(1, 3), Ratio(5, 2)]) for _ in order[1:]]
                    wanted = do_bar(chart, family, order, [fraction(number) for number in value])
                    self.assertIs(are_weights(chart, family, order, value), wanted)
                    self.assertIs(are_weights(chart, family, order, tuple(value)), wanted)
                    self.assertIs(are_weights(chart, family, order, [number * BIG for number in value]), wanted)
                    found[wanted] += 1
        self.assertGreater(min(found), 100)

    def test_multiplied_and_spoilt(self):
        found = 0
        for family in some_families():
            for chart in drawn_charts(108, 8, 2, 3):
                order = chart.riders()
                weights = weights_against(chart, family, order)
                if weights is None:
                    continue
                found += 1
                for times in [2, Ratio(1, 7), BIG]:
                    self.assertIs(are_weights(chart, family, order, [weight * times for weight in weights]), True)
                for k in range(len(weights)):
                    for number in [-1, Ratio(-1, BIG), None, True, "1", [weights[k]]]:
                        spoilt = weights[:k] + [number] + weights[k + 1:]
                        self.assertIs(are_weights(chart, family, order, spoilt), False)
                    moved = weights[:k] + [weights[k] + 1] + weights[k + 1:]
                    self.assertIs(are_weights(chart, family, order, moved),
                                  do_bar(chart, family, order, fractions(moved)))
                for value in [weights[:-1], weights + [0], [0] * len(weights), dict(enumerate(weights))]:
                    self.assertIs(are_weights(chart, family, order, value), False)
        self.assertGreater(found, 50)

    def test_no_weights(self):
        chart = Chart({rider: [] for rider in "abcd"})
        self.assertIs(are_weights(chart, FREE, ["a", "b", "c", "d"], [1, 0, 1]), True)
        for value in no_weights():
            self.assertIs(are_weights(chart, FREE, ["a", "b", "c", "d"], value), False, repr(value))


class AllOrdersTest(Case):
    def check(self, chart, family):
        """Checks the orders against all orders of the riders, one by one; how many there are."""
        found = list(all_orders(chart, family))
        wanted = [list(order) for order in permutations(chart.riders())
                  if order_table(chart, family, order) is not None]
        self.assertEqual(found, wanted)
        self.assertEqual({type(order) for order in found} <= {list}, True)
        return len(found)

    def test_against_all_orders(self):
        found = []
        for family in some_families():
            for chart in [year_chart()] + SPECIAL[:10] + drawn_charts(109, 8, 3):
                if len(chart) <= 4:
                    found.append(self.check(chart, family))
        for chart in drawn_charts(110, 2, 5, 6) + SPECIAL[10:]:
            found.append(self.check(chart, FREE))
        self.assertEqual({0, 1, 2, 3} - set(found), set())
        self.assertGreater(max(found), 6)

    def test_told_ones(self):
        chart = year_chart()
        self.assertEqual(list(all_orders(chart, Family.shrinking(2))), [["a", "b", "c", "d"]])
        self.assertEqual(list(all_orders(chart=chart, family=FREE)), [["a", "b", "c", "d"], ["b", "a", "c", "d"]])
        self.assertEqual(list(all_orders(chart, Family(1))), [])
        self.assertEqual(list(all_orders(Chart({"a": []}), Family(1))), [["a"]])
        self.assertEqual(list(all_orders(Chart({"a": [], "b": []}), FREE)), [])

    def test_each_standing_without_ties_is_told(self):
        for family in some_families():
            for chart in drawn_charts(111, 5, 4, 2):
                found = list(all_orders(chart, family))
                for table in inside(family):
                    lists = standing(chart, table)
                    if len(lists) == len(chart):
                        self.assertIn([one for one, in lists], found)

    def test_given_up_and_by_turns(self):
        chart = BETWEEN_THREE
        whole = list(all_orders(chart, FREE))
        self.assertGreater(len(whole), 5)
        begun, other = all_orders(chart, FREE), all_orders(chart, Family(2))
        second = list(all_orders(chart, Family(2)))
        turns = [(next(begun), next(other)) for _ in range(3)]
        self.assertEqual(turns, list(zip(whole, second))[:3])
        other.close()
        self.assertEqual(list(begun), whole[3:])
        self.assertEqual(list(begun), [])
        self.assertEqual(list(all_orders(chart, Family(2))), second)

    def test_changed_lists(self):
        chart = BETWEEN_THREE
        whole = list(all_orders(chart, FREE))
        found = []
        for order in all_orders(chart, FREE):
            found.append(list(order))
            order.reverse()
            order.clear()
        self.assertEqual(found, whole)
        self.assertNew(lambda: list(all_orders(chart, FREE)))

    def test_errors(self):
        # Nothing is raised before the iteration begins.
        for value in no_charts():
            for found in [all_orders(value, FREE), all_orders(chart=value, family=FREE), all_orders(value, 5)]:
                self.assertFails(InvalidChart, {"value": value}, next, found)
        for value in no_families():
            for found in [all_orders(year_chart(), value), all_orders(chart=year_chart(), family=value),
                          all_orders(Chart({"a": []}), value)]:
                self.assertFails(InvalidFamily, {"value": value}, next, found)


class ErrorsTest(Case):
    def test_all(self):
        chart, order = year_chart(), ["a", "b", "c", "d"]
        for call, more in [(order_table, {}), (weights_against, {}), (are_weights, {"value": [1, 1, 1]})]:
            for value in no_charts():
                self.assertFailsAlike(InvalidChart, {"value": value}, call, chart=value, family=FREE, order=order,
                                      **more)
                self.assertFails(InvalidChart, {"value": value}, call, value, None, None, *more)
            for value in no_families():
                self.assertFailsAlike(InvalidFamily, {"value": value}, call, chart=chart, family=value, order=order,
                                      **more)
                self.assertFails(InvalidFamily, {"value": value}, call, chart, value, None, *more)
            for value in no_orders():
                self.assertFailsAlike(InvalidOrder, {"value": value}, call, chart=chart, family=FREE, order=value,
                                      **more)

    def test_does_come(self):
        chart, order = year_chart(), ["a", "b", "c", "d"]
        for value in no_charts():
            self.assertFailsAlike(InvalidChart, {"value": value}, does_come, chart=value, table=Table(1), order=order)
            self.assertFails(InvalidChart, {"value": value}, does_come, value, 1, 1)
        for value in no_tables():
            self.assertFailsAlike(InvalidTable, {"value": value}, does_come, chart=chart, table=value, order=order)
            self.assertFails(InvalidTable, {"value": value}, does_come, chart, value, 1)
        for value in no_orders():
            self.assertFailsAlike(InvalidOrder, {"value": value}, does_come, chart=chart, table=Table(1), order=value)

    def test_nothing_changes(self):
        chart, family, order, value = year_chart(), Family(3, (1, -2)), ["d", "c", "b", "a"], [1, 0, Ratio(1, 2)]
        self.assertNew(lambda: weights_against(chart, family, order))
        for call in [lambda: order_table(chart, family, order[:2]), lambda: weights_against(chart, 1, order),
                     lambda: are_weights(chart, family, [order], value), lambda: does_come(chart, Table(1), None)]:
            with self.assertRaises(ValueError):
                call()
        for call in [lambda: order_table(chart, family, order), lambda: are_weights(chart, family, order, value),
                     lambda: does_come(chart, Table(1), order), lambda: is_order(chart, order)]:
            self.assertEqual(call(), call())
        self.assertEqual([chart, family, order, value],
                         [year_chart(), Family(3, (1, -2)), ["d", "c", "b", "a"], [1, 0, Ratio(1, 2)]])


if __name__ == "__main__":
    unittest.main()
