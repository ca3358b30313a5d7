import operator
import unittest
from itertools import permutations, product

from anypoints.charts import Chart, best_of, chart_of
from anypoints.diaries import Diary
from anypoints.errors import (InvalidChart, InvalidNumber, InvalidRows, InvalidSeason, InvalidTeams, LastRider,
                              OtherRiders, TooMany, UnknownRider)
from anypoints.ratios import Ratio
from anypoints.seasons import Season
from anypoints.tables import Table
from tests.helpers import BIG, Case, no_charts, no_counts, no_integers, no_keys, no_names, no_seasons, seasons
from tests.test_seasons import year

SIX = {rider: [k] for k, rider in enumerate("abcdef")}


def some():
    return Chart({"b": [1, 2], "a": (2, 0, 0, 1), "c": []})


def charts():
    """Charts of many kinds."""
    told = [some(), Chart({"a": []}), Chart({"zebra": [BIG, 0, BIG - 1]}), Chart(SIX),
            Chart({"a": [1] * 5, "b": [0] * 5})]
    return told + [chart_of(season) for season in seasons()]


class MakingTest(Case):
    def test_told_ones(self):
        self.assertEqual(some().rows(), {"a": [2, 0, 0, 1, 0], "b": [1, 2, 0, 0, 0], "c": [0, 0, 0, 0, 0]})
        self.assertEqual(list(some().rows()), ["a", "b", "c"])
        self.assertEqual([type(row) for row in some().rows().values()], [list] * 3)
        self.assertEqual([some().riders(), len(some())], [["a", "b", "c"], 3])
        self.assertEqual(Chart(rows={"a": [0, BIG]})["a"], [0, BIG, 0, 0, 0])
        self.assertEqual(len(Chart(SIX)), 6)

    def test_wrong_as_a_whole(self):
        for value in no_charts() + [[("a", [1])], (("a", [1]),)]:
            if not isinstance(value, dict) or not value:
                self.assertFailsAlike(InvalidRows, {"name": None}, Chart, rows=value)
        for value in no_keys():
            self.assertFails(InvalidRows, {"name": None}, Chart, {value: [1]})
            self.assertFails(InvalidRows, {"name": None}, Chart, {"a": None, value: [1], "b": [True]})
            self.assertFails(InvalidRows, {"name": None}, Chart, {**SIX, "g": [], value: []})

    def test_wrong_rows(self):
        wrong = [None, True, 0, 5, "", "1", b"1", {}, {0: 1}, {1}, range(2), iter([1]), Ratio(1), Table(1), some(),
                 [1] * 6, (0,) * 6, [[]], [[1]], [None], ["1"], [1, True], [False], [Ratio(1)], [1, -1], [-BIG],
                 (1, None)]
        for value in wrong + [[value] for value in no_counts()]:
            self.assertFailsAlike(InvalidRows, {"name": "a"}, Chart, rows={"a": value})
            self.assertFails(InvalidRows, {"name": "b"}, Chart, {"c": value, "b": value, "a": [1]})
            self.assertFails(InvalidRows, {"name": "aa"}, Chart, {"b": value, "a": [], "aa": value, "ab": None})
            self.assertFails(InvalidRows, {"name": "h"}, Chart, {"h": value, **SIX, "g": []})

    def test_too_many(self):
        told = {"what": "riders", "limit": 6}
        self.assertFails(TooMany, told, Chart, {**SIX, "g": []})
        self.assertFails(TooMany, told, Chart, {chr(97 + k): [k] for k in range(26)})

    def test_what_is_passed_is_copied(self):
        row = [1, 2]
        rows = {"a": row, "b": []}
        found = Chart(rows)
        row.append(7)
        rows["c"] = []
        del rows["b"]
        self.assertEqual(repr(found), "Chart({'a': [1, 2, 0, 0, 0], 'b': [0, 0, 0, 0, 0]})")
        self.assertEqual(rows, {"a": [1, 2, 7], "c": []})

    def test_equal(self):
        rows = [("a", [2, 0, 0, 1]), ("b", (1, 2, 0, 0, 0)), ("c", [0])]
        for told in permutations(rows):
            self.assertTrue(Chart(dict(told)) == some())
            self.assertFalse(Chart(dict(told)) != some())
            self.assertEqual(repr(Chart(dict(told))), repr(some()))
            self.assertEqual(list(Chart(dict(told)).rows()), ["a", "b", "c"])
        self.assertFalse(some() == Chart({"a": [2, 0, 0, 1], "b": [1, 2]}))
        self.assertFalse(some() == Chart({"a": [2, 0, 0, 1], "b": [1, 2], "c": [0, 0, 0, 0, 1]}))
        self.assertFalse(some() == Chart({"a": [2, 0, 0, 1], "b": [1, 2], "d": []}))
        for value in no_charts():
            self.assertFalse(Chart({"a": [1]}) == value)
            self.assertFalse(value == Chart({"a": [1]}))
            self.assertTrue(Chart({"a": [1]}) != value)

    def test_repr(self):
        self.assertEqual(repr(Chart({"b": [1, 2], "a": (2, 0, 0, 1)})),
                         "Chart({'a': [2, 0, 0, 1, 0], 'b': [1, 2, 0, 0, 0]})")
        for chart in charts():
            self.assertEqual(eval(repr(chart)), chart)


class AskingTest(Case):
    def test_rows_by_rider(self):
        for chart in charts():
            self.assertEqual({rider: chart[rider] for rider in chart.riders()}, chart.rows())
        for value in no_names() + ["z", "aa", "ab"]:
            self.assertFails(UnknownRider, {"value": value}, operator.getitem, some(), value)
            self.assertFailsAlike(UnknownRider, {"value": value}, some().firsts, rider=value)
            self.assertFailsAlike(UnknownRider, {"value": value}, some().without, rider=value)
        with self.assertRaises(TypeError):
            list(some())

    def test_firsts(self):
        self.assertEqual(some().firsts("a"), [2, 2, 2, 3, 3])
        self.assertEqual(some().firsts(rider="c"), [0] * 5)
        for chart in charts():
            for rider, row in chart.rows().items():
                self.assertEqual(chart.firsts(rider), [sum(row[:k + 1]) for k in range(5)])

    def test_points_are_firsts_by_steps(self):
        for chart, table in product(charts(), [Table(1), Table(25, 18, 15, 12, 10), Table(3, Ratio(1, 2))]):
            for rider in chart.riders():
                by_row = sum(many * point for many, point in zip(chart[rider], table.points()))
                by_firsts = sum(many * step for many, step in zip(chart.firsts(rider), table.steps()))
                self.assertEqual(by_row, by_firsts)

    def test_in(self):
        self.assertEqual([name in some() for name in ["a", "c", "d", "aa"]], [True, True, False, False])
        for value in no_names() + [["a"], some()]:
            self.assertIs(value in some(), False)


class SumsTest(Case):
    def test_add(self):
        for one, other in product(charts()[:14], charts()[:14]):
            before = repr([one, other])
            if one.riders() != other.riders():
                self.assertFails(OtherRiders, {"one": one, "other": other}, operator.add, one, other)
            else:
                rows = (one + other).rows()
                for rider in one.riders():
                    self.assertEqual(rows[rider], [a + b for a, b in zip(one[rider], other[rider])])
            self.assertEqual(repr([one, other]), before)
        for value in no_charts():
            self.assertFails(InvalidChart, {"value": value}, operator.add, some(), value)

    def test_add_is_that_of_seasons(self):
        for one, other in product(seasons(), seasons()):
            if one.riders() == other.riders():
                self.assertEqual(chart_of(one + other), chart_of(one) + chart_of(other))

    def test_multiply(self):
        for chart in charts():
            for many in [0, 1, 2, 7, BIG]:
                rows = {rider: [many * number for number in row] for rider, row in chart.rows().items()}
                self.assertEqual((chart * many).rows(), rows)
                self.assertEqual((many * chart).rows(), rows)
            self.assertEqual(chart + chart + chart, 3 * chart)
        self.assertEqual(Chart({"a": [BIG, 1]}) * BIG, Chart({"a": [BIG * BIG, BIG]}))
        self.assertEqual(Chart({"a": [BIG, 1]}) + Chart({"a": [BIG]}), Chart({"a": [2 * BIG, 1]}))

    def test_multiply_by_wrong_values(self):
        for value in no_counts() + [some(), year(), Diary(year())]:
            self.assertFails(InvalidNumber, {"value": value}, operator.mul, some(), value)
        for value in [-1, -BIG, True, False]:
            self.assertFails(InvalidNumber, {"value": value}, operator.mul, value, some())

    def test_other_kinds_on_the_left(self):
        self.assertFails(InvalidNumber, {"value": some()}, operator.mul, Ratio(2), some())
        self.assertFails(InvalidNumber, {"value": some()}, operator.mul, year(), some())
        self.assertFails(InvalidSeason, {"value": some()}, operator.add, year(), some())
        for value in [1, None, "a", [], [["a"]], (), {}]:
            with self.assertRaises(TypeError):
                value + some()

    def test_without(self):
        self.assertEqual(some().without("b"), Chart({"a": [2, 0, 0, 1], "c": []}))
        self.assertEqual(some().without(rider="a").without("c"), Chart({"b": [1, 2]}))
        for chart in charts():
            for rider in chart.riders():
                if len(chart) == 1:
                    self.assertFailsAlike(LastRider, {"value": rider}, chart.without, rider=rider)
                else:
                    rows = chart.rows()
                    del rows[rider]
                    self.assertEqual(chart.without(rider).rows(), rows)
        self.assertFails(UnknownRider, {"value": "b"}, Chart({"a": [1]}).without, "b")


class TeamsTest(Case):
    def test_told_ones(self):
        chart = Chart({"a": [1, 2], "b": [0, 0, 5], "c": [3], "d": [0, 0, 0, 0, 1]})
        self.assertEqual(chart.teamed({"x": ["a", "c"], "b": ("d",)}), Chart({"x": [4, 2], "b": [0, 0, 0, 0, 1]}))
        self.assertEqual(chart.teamed(teams={"a": ["b", "c", "d", "a"]}), Chart({"a": [4, 2, 5, 0, 1]}))
        swapped = {"a": ["b"], "b": ["a"]}
        self.assertEqual(chart.teamed(swapped), Chart({"a": [0, 0, 5], "b": [1, 2]}))
        self.assertEqual(swapped, {"a": ["b"], "b": ["a"]})
        self.assertEqual(list(chart.teamed({"z": ["a"], "y": ["b"]}).rows()), ["y", "z"])

    def test_big_counts(self):
        chart = Chart({"a": [BIG, 0, 1], "b": [BIG, BIG]})
        self.assertEqual(chart.teamed({"t": ["a", "b"]}), Chart({"t": [2 * BIG, BIG, 1]}))

    def test_each_alone_or_all_together(self):
        for chart in charts():
            self.assertEqual(chart.teamed({rider: [rider] for rider in chart.riders()}), chart)
            rows = list(chart.rows().values())
            self.assertEqual(chart.teamed({"all": chart.riders()})["all"], [sum(column) for column in zip(*rows)])

    def test_six_teams(self):
        self.assertEqual(Chart(SIX).teamed({"team" + rider: [rider] for rider in SIX}).riders(),
                         ["team" + rider for rider in "abcdef"])

    def test_wrong_as_a_whole(self):
        for value in no_charts() + [[("t", ["a"])], Chart({"t": [1]})]:
            if not isinstance(value, dict) or not value:
                self.assertFailsAlike(InvalidTeams, {"name": None}, some().teamed, teams=value)
        for value in no_keys():
            self.assertFails(InvalidTeams, {"name": None}, some().teamed, {value: ["a"]})
            self.assertFails(InvalidTeams, {"name": None}, some().teamed, {"t": None, value: ["a"]})

    def test_wrong_teams(self):
        wrong = [None, True, 0, "", "a", "ab", b"a", {}, {"a": 1}, {"a"}, iter(["a"]), [], (), ["a", "a"],
                 ("b", "a", "b"), ["z"], ["a", "z"], ["aa"], [["a"]], [("a",)], Ratio(1), some(), year()]
        for value in wrong + [["a", value] for value in no_names()]:
            self.assertFailsAlike(InvalidTeams, {"name": "t"}, some().teamed, teams={"t": value})
            self.assertFails(InvalidTeams, {"name": "t"}, some().teamed, {"u": value, "t": value, "s": ["c"]})
            self.assertFails(InvalidTeams, {"name": "s"}, some().teamed, {"u": ["a"], "t": ["a"], "s": value})

    def test_riders_in_two_teams(self):
        self.assertFails(InvalidTeams, {"name": "u"}, some().teamed, {"u": ["a"], "t": ["b", "a"]})
        self.assertFails(InvalidTeams, {"name": "t"}, some().teamed, {"t": ["c", "b"], "s": ["b"], "u": []})
        self.assertFails(InvalidTeams, {"name": "v"}, some().teamed, {"v": ["a"], "u": ["c"], "t": ["b", "a"]})
        self.assertFails(InvalidTeams, {"name": "t"}, some().teamed, {"u": ["a"], "t": ["b", "b"], "s": ["a"]})


class OfSeasonsTest(Case):
    def test_chart_of(self):
        self.assertEqual(chart_of(year()).rows(), {"a": [2, 0, 0, 1, 0], "b": [1, 2, 0, 0, 0], "c": [0, 1, 0, 0, 0],
                                                   "d": [0, 0, 1, 0, 0]})
        self.assertEqual(chart_of(Season(["b", "a"])), Chart({"a": [], "b": []}))
        six = Season(list("abcdef"), [list("abcdef"), [None] * 5 + ["a"], [None, "a"]])
        self.assertEqual(chart_of(season=six).rows()["a"], [1, 1, 0, 0, 0])
        self.assertEqual(chart_of(six)["f"], [0] * 5)
        for season in seasons():
            for rider in season.riders():
                wanted = [season.places(rider).count(place) for place in range(1, 6)]
                self.assertEqual(chart_of(season)[rider], wanted)

    def test_best_of(self):
        told = Season(["a", "b"], [["a"], [None, "a"], [None] * 5 + ["a"], ["b", "a"], [None, None, "a"], ["a", "b"]])
        rows = [[], [1], [2], [2, 1], [2, 2], [2, 2, 1], [2, 2, 1], [2, 2, 1]]
        for many, row in enumerate(rows):
            self.assertEqual(best_of(told, many)["a"], row + [0] * (5 - len(row)))
            others = [[0] * 5, [1] + [0] * 4, [1, 1, 0, 0, 0]][min(many, 2)]
            self.assertEqual(best_of(season=told, many=many)["b"], others)
        self.assertEqual(best_of(told, BIG), chart_of(told))

    def test_best_of_by_points(self):
        tables = [Table(1), Table(25, 18, 15, 12, 10), Table(1, 1, 1), Table(6, 6, 1, 1, 1)]
        for season in seasons():
            for many in range(len(season) + 2):
                chart = best_of(season, many)
                for rider, table in product(season.riders(), tables):
                    points = [table[place].top for place in season.places(rider) if place in range(1, 6)]
                    best = sum(sorted(points, reverse=True)[:many])
                    self.assertEqual(sum(n * p.top for n, p in zip(chart[rider], table.points())), best)

    def test_errors(self):
        for value in no_seasons():
            self.assertFailsAlike(InvalidSeason, {"value": value}, chart_of, season=value)
            self.assertFailsAlike(InvalidSeason, {"value": value}, best_of, season=value, many=1)
            self.assertFails(InvalidSeason, {"value": value}, best_of, value, -1)
        for value in no_counts():
            self.assertFailsAlike(InvalidNumber, {"value": value}, best_of, season=year(), many=value)


class StayingTest(Case):
    def test_returned_lists_and_dicts_are_new(self):
        chart = some()
        for call in [chart.riders, chart.rows, lambda: chart["a"], lambda: chart.firsts("a"), (chart + chart).rows,
                     (chart * 2).rows, chart.without("a").rows, chart.teamed({"t": ["a"]}).rows,
                     chart_of(year()).rows, best_of(year(), 1).rows]:
            self.assertNew(call)
        self.assertEqual(chart, some())

    def test_nothing_changes(self):
        chart, season, teams = some(), year(), {"t": ["a", "b"], "s": ["z"]}
        for call in [lambda: chart["z"], lambda: chart.firsts(1), lambda: chart + 1, lambda: chart + Chart({"a": []}),
                     lambda: chart * -1, lambda: True * chart, lambda: chart.without("z"), lambda: chart.teamed(teams),
                     lambda: best_of(season, -1), lambda: chart_of(chart)]:
            with self.assertRaises((ValueError, LookupError, RuntimeError)):
                call()
        for call in [lambda: chart + chart, lambda: 2 * chart, lambda: chart.without("a"), lambda: chart_of(season),
                     lambda: chart.teamed({"t": ["a", "b"]}), lambda: best_of(season, 2)]:
            self.assertEqual(call(), call())
            self.assertIs(type(call()), Chart)
        self.assertEqual([chart, season, teams], [some(), year(), {"t": ["a", "b"], "s": ["z"]}])

    def test_no_integers_inside(self):
        for value in no_integers():
            self.assertFails(InvalidRows, {"name": "b"}, Chart, {"a": [1], "b": [1, 0, value]})


if __name__ == "__main__":
    unittest.main()
