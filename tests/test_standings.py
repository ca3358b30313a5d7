import random
import unittest
from itertools import product

from anypoints.charts import Chart, chart_of
from anypoints.errors import InvalidChart, InvalidTable, TooMany, UnknownRider
from anypoints.ratios import Ratio
from anypoints.standings import points_of, standing, steep_standing, steepness, totals
from anypoints.tables import Table
from tests.helpers import BIG, Case, drawn_charts, fractions, no_charts, no_names, no_tables, points, seasons
from tests.test_seasons import year

TABLES = [Table(1), Table(1, 1), Table(1, 1, 1, 1, 1), Table(3, 2, 1), Table(25, 18, 15, 12, 10), Table(3, Ratio(1, 2)),
          Table(Ratio(7, 3), Ratio(5, 4), Ratio(5, 4), Ratio(1, 9)), Table(BIG, BIG - 1, 1), Table.steep(10, 5)]


def year_chart():
    return chart_of(year())


def charts():
    """Charts of many kinds."""
    told = [Chart({"a": []}), Chart({"b": [0] * 5, "a": [0]}), Chart({"a": [BIG, 3], "b": [BIG - 1, 4], "c": [BIG, 3]}),
            Chart({"c": [1, 2], "a": [1, 2], "b": [1, 2], "d": [2]}), year_chart()]
    return told + drawn_charts(41, 60, 2) + drawn_charts(42, 20, 40) + [chart_of(season) for season in seasons()]


def ranked(worths):
    """The riders by falling worth, those with equal ones in one list."""
    return [sorted(rider for rider in worths if worths[rider] == level)
            for level in sorted({worths[rider] for rider in worths}, reverse=True)]


def plain_standing(chart, s):
    """The standing by the steep table of s, with integers alone."""
    return ranked({rider: sum(n * s ** (4 - k) for k, n in enumerate(row)) for rider, row in chart.rows().items()})


def tried_steepness(chart):
    """The steepness by trying all counts from a great one down."""
    told = ranked({rider: tuple(row) for rider, row in chart.rows().items()})
    found = max(max(row) for row in chart.rows().values()) + 30
    while found > 1 and plain_standing(chart, found - 1) == told:
        found = found - 1
    return found


class PointsTest(Case):
    def test_points(self):
        self.assertEqual([str(points_of(year_chart(), Table(3, 2, 1), rider)) for rider in "abcd"],
                         ["6", "7", "2", "1"])
        self.assertEqual([str(points_of(year_chart(), Table(25, 18, 15, 12), rider)) for rider in "ab"], ["62", "61"])
        for chart, table in product(charts(), TABLES):
            for rider in chart.riders():
                found = points_of(chart, table, rider)
                self.assertIs(type(found), Ratio)
                self.assertEqual(fractions([found]), [points(chart, table, rider)])
            told = totals(chart=chart, table=table)
            self.assertEqual(list(told), chart.riders())
            self.assertEqual(told, {rider: points_of(chart=chart, table=table, rider=rider) for rider in told})

    def test_fractions_and_big_counts(self):
        chart = Chart({"a": [1, 1], "b": [BIG, BIG]})
        table = Table(Ratio(1, 2), Ratio(1, 3))
        self.assertEqual(totals(chart, table), {"a": Ratio(5, 6), "b": Ratio(5 * BIG, 6)})
        self.assertEqual(points_of(Chart({"a": []}), table, "a"), Ratio(0))

    def test_errors(self):
        chart, table = year_chart(), Table(3, 2, 1)
        for value in no_charts():
            self.assertFailsAlike(InvalidChart, {"value": value}, points_of, chart=value, table=table, rider="a")
            self.assertFails(InvalidChart, {"value": value}, points_of, value, None, None)
            self.assertFailsAlike(InvalidChart, {"value": value}, totals, chart=value, table=table)
            self.assertFails(InvalidChart, {"value": value}, totals, value, None)
        for value in no_tables():
            self.assertFailsAlike(InvalidTable, {"value": value}, points_of, chart=chart, table=value, rider="a")
            self.assertFails(InvalidTable, {"value": value}, points_of, chart, value, "z")
            self.assertFailsAlike(InvalidTable, {"value": value}, totals, chart=chart, table=value)
        for value in no_names() + ["z", "e"]:
            self.assertFailsAlike(UnknownRider, {"value": value}, points_of, chart=chart, table=table, rider=value)


class StandingTest(Case):
    def test_told_ones(self):
        self.assertEqual(standing(year_chart(), Table(3, 2, 1)), [["b"], ["a"], ["c"], ["d"]])
        self.assertEqual(standing(year_chart(), Table(25, 18, 15, 12)), [["a"], ["b"], ["c"], ["d"]])
        self.assertEqual(standing(chart=year_chart(), table=Table(1)), [["a"], ["b"], ["c", "d"]])
        self.assertEqual(standing(year_chart(), Table(1, 1, 1, 1)), [["a", "b"], ["c", "d"]])
        self.assertEqual(standing(Chart({"c": [], "a": [], "b": [0]}), Table(1)), [["a", "b", "c"]])
        self.assertEqual(standing(Chart({"a": []}), Table(1)), [["a"]])

    def test_equal_points_and_equal_rows(self):
        chart = Chart({"d": [0, 2], "c": [1], "b": [0, 0, 4], "a": [1], "e": [0, 1, 2]})
        self.assertEqual(standing(chart, Table(4, 2, 1)), [["a", "b", "c", "d", "e"]])
        self.assertEqual(standing(chart, Table(5, 2, 1)), [["a", "c"], ["b", "d", "e"]])
        self.assertEqual(standing(chart, Table(Ratio(4, 3), Ratio(2, 3), Ratio(1, 3))), [["a", "b", "c", "d", "e"]])
        self.assertEqual(steep_standing(chart), [["a", "c"], ["d"], ["e"], ["b"]])

    def test_by_points(self):
        for chart, table in product(charts(), TABLES):
            wanted = ranked({rider: points(chart, table, rider) for rider in chart.riders()})
            self.assertEqual(standing(chart, table), wanted)
            self.assertEqual(standing(chart, table * Ratio(3, 7)), wanted)

    def test_equal_points_of_big_counts(self):
        chart = Chart({"a": [BIG, 0, 1], "b": [BIG, 1], "c": [BIG - 1, 2, 0]})
        self.assertEqual(standing(chart, Table(2, 1)), [["b"], ["a", "c"]])
        self.assertEqual(standing(chart, Table(Ratio(2 * BIG + 1, BIG), 1)), [["b"], ["a"], ["c"]])
        self.assertEqual(standing(chart, Table(Ratio(2 * BIG - 1, BIG), 1)), [["b"], ["c"], ["a"]])

    def test_steep_standing(self):
        self.assertEqual(steep_standing(year_chart()), [["a"], ["b"], ["c"], ["d"]])
        self.assertEqual(steep_standing(chart=Chart({"a": [0, 9], "b": [1], "c": (0, 9, 0), "d": [0, 8, BIG]})),
                         [["b"], ["a", "c"], ["d"]])
        for chart in charts():
            self.assertEqual(steep_standing(chart),
                             ranked({rider: tuple(row) for rider, row in chart.rows().items()}))

    def test_errors(self):
        for value in no_charts():
            self.assertFailsAlike(InvalidChart, {"value": value}, standing, chart=value, table=Table(1))
            self.assertFails(InvalidChart, {"value": value}, standing, value, None)
            self.assertFailsAlike(InvalidChart, {"value": value}, steep_standing, chart=value)
            self.assertFailsAlike(InvalidChart, {"value": value}, steepness, chart=value)
        for value in no_tables():
            self.assertFailsAlike(InvalidTable, {"value": value}, standing, chart=year_chart(), table=value)


class SteepnessTest(Case):
    def test_told_ones(self):
        self.assertEqual(steepness(year_chart()), 2)
        self.assertEqual(steepness(Chart({"a": []})), 1)
        self.assertEqual(steepness(chart=Chart({"a": [0, 0, 0, 0, 1000]})), 1)
        self.assertEqual(steepness(Chart({"a": [3, 1], "b": [3, 1]})), 1)
        self.assertEqual(steepness(Chart({"a": [3, 1], "b": [3]})), 1)
        self.assertEqual(steepness(Chart({"a": [1], "b": [0, 1]})), 2)
        self.assertEqual(steepness(Chart({"a": [0, 0, 0, 1], "b": [0, 0, 0, 0, 7]})), 8)

    def test_comes_goes_and_comes_again(self):
        chart = Chart({"a": [1, 0, 14, 0, 0], "b": [0, 7, 0, 7, 0]})
        self.assertEqual(steepness(chart), 4)
        told = [standing(chart, Table.steep(s, 5)) == steep_standing(chart) for s in range(1, 9)]
        self.assertEqual(told, [True, True, False, True, True, True, True, True])
        gone = Chart({"a": [1, 0, 36, 0, 0], "b": [0, 12, 0, 0, 0]})
        self.assertEqual(steepness(gone), tried_steepness(gone))
        self.assertEqual(steepness(gone), 7)

    def test_by_trying(self):
        draw = random.Random(43)
        some = drawn_charts(44, 150, 3) + drawn_charts(45, 60, 25) + drawn_charts(46, 20, 120, 2)
        for _ in range(150):
            row = [draw.randint(0, 9) for _ in range(5)]
            other = [max(0, n + m) for n, m in zip(row, [-1, 6, draw.randint(-9, 0), draw.randint(0, 9), 0])]
            some.append(Chart({"a": row, "b": other, "c": row[:3]}))
        found = {}
        for chart in some:
            s = steepness(chart)
            self.assertEqual(s, tried_steepness(chart), chart)
            self.assertEqual(standing(chart, Table.steep(s, 5)), steep_standing(chart))
            found[s] = True
        self.assertGreater(len(found), 12)

    def test_greatest_counts(self):
        chart = Chart({"a": [1, 0, 0, 0, 0], "b": [0, 1000, 1000, 1000, 1000]})
        self.assertEqual(steepness(chart), 1001)
        self.assertEqual(tried_steepness(chart), 1001)
        self.assertEqual(steepness(Chart({"a": [1], "b": [0, 1000]})), 1001)
        self.assertEqual(steepness(Chart({"a": [1, 1], "b": [0, 1000]})), 1000)
        self.assertEqual(steepness(Chart({"a": [1000] * 5, "b": [999] + [1000] * 4})), 1)
        self.assertEqual(steepness(Chart({"a": [999] + [1000] * 4, "b": [1000] * 4})), 6)

    def test_too_many(self):
        told = {"what": "counts", "limit": 1000}
        for row in [[1001], [0, 0, 0, 0, 1001], [0, BIG]]:
            self.assertFailsAlike(TooMany, told, steepness, chart=Chart({"a": row}))
            self.assertFails(TooMany, told, steepness, Chart({"a": [1], "b": [1000, 3], "c": row}))
        self.assertEqual(steepness(Chart({"a": [1000], "b": []})), 1)


class StayingTest(Case):
    def test_returned_lists_and_dicts_are_new(self):
        chart = year_chart()
        for call in [lambda: totals(chart, Table(3, 2)), lambda: standing(chart, Table(1)),
                     lambda: steep_standing(chart)]:
            self.assertNew(call)
        self.assertEqual(chart, year_chart())

    def test_nothing_changes(self):
        chart, table = year_chart(), Table(3, 2, 1)
        for call in [lambda: points_of(chart, table, "z"), lambda: totals(chart, 3), lambda: standing(table, chart),
                     lambda: steepness(chart * 1000)]:
            with self.assertRaises((ValueError, LookupError, ArithmeticError)):
                call()
        standing(chart, table)
        steepness(chart)
        self.assertEqual([chart, table], [year_chart(), Table(3, 2, 1)])


if __name__ == "__main__":
    unittest.main()
