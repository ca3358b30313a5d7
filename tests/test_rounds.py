import random
import unittest
from itertools import permutations, product

from anypoints.charts import Chart, chart_of
from anypoints.errors import DoesNotFit, InvalidChart, InvalidNumber, TooMany
from anypoints.rounds import does_fit, least_races, season_of, what_bars
from anypoints.seasons import Season, is_race
from tests.helpers import BIG, Case, drawn_charts, no_charts, no_counts, seasons
from tests.test_mixes import year_chart

TOO_MANY_RACES = {"what": "races", "limit": 40}


def sums(chart):
    """What the rows and the columns add up to, by the tuples that name them."""
    found = {("rider", rider): sum(row) for rider, row in chart.rows().items()}
    for place in range(1, 6):
        found["place", place] = sum(row[place - 1] for row in chart.rows().values())
    return found


def drawn_by_races(draw, riders, many):
    """The chart of so many drawn races in which riders come to the places up to 5 as drawn."""
    rows = {rider: [0] * 5 for rider in riders}
    for _ in range(many):
        for place, rider in zip(range(5), draw.sample(list(riders) + [None] * draw.choice([0, 1, 3]), len(riders))):
            if rider is not None:
                rows[rider][place] += 1
    return Chart(rows)


def full_charts():
    """Charts all of whose rows, or columns, or both, add up to the same number."""
    draw = random.Random(131)
    found = [(Chart({"a": [40]}), 40), (Chart({"a": [0, 0, 0, 0, 40]}), 40), (Chart({"a": [8] * 5}), 40),
             (Chart({rider: [8] * 5 for rider in "abcde"}), 40),
             (Chart({rider: [5] * 5 for rider in "abcdef"}), 30)]
    for many in [1, 2, 7, 19, 40]:
        for riders in ["abc", "abcde", "abcdef"]:
            rows = {rider: [0] * 5 for rider in riders}
            for _ in range(many):
                for place, rider in enumerate(draw.sample(riders, min(5, len(riders)))):
                    rows[rider][place] += 1
            found.append((Chart(rows), many))
    return found


class FitCase(Case):
    def told_back(self, chart, many):
        """Checks the season that is told back, by counting in its races."""
        season = season_of(chart, many)
        self.assertIs(type(season), Season)
        self.assertEqual(season.riders(), chart.riders())
        self.assertEqual(len(season), many)
        rows = {rider: [0] * 5 for rider in chart.riders()}
        for race in season.races():
            self.assertIs(is_race(race), True)
            for place, rider in enumerate(race[:5]):
                if rider is not None:
                    rows[rider][place] += 1
        self.assertEqual(rows, chart.rows())
        self.assertEqual(chart_of(season), chart)
        self.assertEqual(season_of(chart=chart, many=many), season)


class FittingTest(FitCase):
    def test_rows_and_columns(self):
        charts = [year_chart(), Chart({"a": []})] + drawn_charts(132, 60, 4) + drawn_charts(133, 30, BIG)
        charts += [chart for chart, _ in full_charts()]
        for chart in charts:
            told = sums(chart)
            least = max(told.values())
            self.assertEqual(least_races(chart), least)
            self.assertEqual(least_races(chart=chart), least)
            for many in {0, least // 2, max(least - 1, 0), least, least + 1, 2 * least, 41, BIG}:
                self.assertIs(does_fit(chart, many), many >= least)
                self.assertIs(does_fit(chart=chart, many=many), many >= least)
                found = what_bars(chart, many)
                self.assertEqual(what_bars(chart=chart, many=many), found)
                if many >= least:
                    self.assertIsNone(found)
                else:
                    self.assertIs(type(found), tuple)
                    self.assertGreater(told[found], many)
                    self.assertIs(type(found[1]), str if found[0] == "rider" else int)

    def test_told_ones(self):
        self.assertEqual(least_races(year_chart()), 3)
        self.assertIn(what_bars(year_chart(), 2), [("rider", "a"), ("rider", "b"), ("place", 1), ("place", 2)])
        self.assertEqual(what_bars(Chart({"a": [1, 1], "b": [0, 0, 1]}), 1), ("rider", "a"))
        self.assertEqual(what_bars(Chart({"a": [0, 1], "b": [0, 1]}), 1), ("place", 2))
        self.assertEqual(what_bars(Chart({"a": [0, 0, 0, 0, BIG], "b": [0, 0, 0, 0, 1]}), BIG), ("place", 5))
        self.assertEqual(least_races(Chart({"a": [0, 0, 0, 0, BIG], "b": [0, 0, 0, 0, 1]})), BIG + 1)
        self.assertEqual(least_races(Chart({"a": [], "b": []})), 0)
        self.assertIs(does_fit(Chart({"a": [], "b": []}), 0), True)

    def test_small_charts_against_all_races(self):
        # With two races of two riders at three places all charts can be gone through.
        races = [race for race in product(["a", "b", None], repeat=3)
                 if race.count("a") < 2 and race.count("b") < 2]
        found = set()
        for one, other in product(races, repeat=2):
            found.add(tuple(tuple((one[k] == rider) + (other[k] == rider) for k in range(3)) for rider in "ab"))
        for counts in product(range(3), repeat=6):
            chart = Chart({"a": counts[:3], "b": counts[3:]})
            fits = (counts[:3], counts[3:]) in found
            self.assertIs(does_fit(chart, 2), fits)
            self.assertIs(what_bars(chart, 2) is None, fits)
            if fits:
                self.told_back(chart, 2)
            else:
                self.assertFails(DoesNotFit, {"many": 2}, season_of, chart, 2)


class ToldBackTest(FitCase):
    def test_drawn_charts(self):
        draw = random.Random(134)
        for _ in range(60):
            riders, many = "abcdef"[:draw.randint(1, 6)], draw.randint(0, 40)
            chart = drawn_by_races(draw, riders, many)
            for number in {least_races(chart), many, 40}:
                self.told_back(chart, number)
        for chart in drawn_charts(135, 60, 3):
            for many in [least_races(chart), least_races(chart) + 1, 40]:
                self.told_back(chart, many)

    def test_full_charts(self):
        for chart, many in full_charts():
            self.assertEqual(least_races(chart), many)
            for number in {many, min(many + 1, 40), 40}:
                self.told_back(chart, number)

    def test_seasons(self):
        for season in seasons() + [Season(["a"]), Season(["a", "b"], [[]] * 40)]:
            chart = chart_of(season)
            self.told_back(chart, len(season))
            self.told_back(chart, 40)

    def test_no_race(self):
        for riders in ["a", "abcdef"]:
            chart = Chart({rider: [] for rider in riders})
            self.told_back(chart, 0)
            self.assertEqual(season_of(chart, 0), Season(list(riders)))
            self.assertEqual(season_of(chart, 3), Season(list(riders), [[], [], []]))
        for chart in [Chart({"a": [1]}), Chart({"a": [0, 0, 0, 0, 1], "b": []})]:
            self.assertFails(DoesNotFit, {"many": 0}, season_of, chart, 0)

    def test_orders_that_a_choice_could_miss(self):
        # Whoever takes the first rider that is left for each place gets stuck here.
        rows = [[1, 1, 0], [1, 0, 1], [0, 1, 1]]
        for order in permutations(rows):
            self.told_back(Chart(dict(zip("abc", order))), 2)
        self.told_back(Chart({"a": [20, 20], "b": [20, 0, 20], "c": [0, 20, 20]}), 40)


class ErrorsTest(Case):
    def test_charts_and_numbers(self):
        for value in no_charts():
            self.assertFailsAlike(InvalidChart, {"value": value}, least_races, chart=value)
            for call in [does_fit, what_bars, season_of]:
                self.assertFailsAlike(InvalidChart, {"value": value}, call, chart=value, many=5)
                self.assertFails(InvalidChart, {"value": value}, call, value, -1)
        for value in no_counts():
            for call in [does_fit, what_bars, season_of]:
                self.assertFailsAlike(InvalidNumber, {"value": value}, call, chart=year_chart(), many=value)

    def test_season_of(self):
        chart = year_chart()
        for many in [0, 1, 2]:
            self.assertFailsAlike(DoesNotFit, {"many": many}, season_of, chart=chart, many=many)
        for many in [41, 42, BIG]:
            self.assertFailsAlike(TooMany, TOO_MANY_RACES, season_of, chart=chart, many=many)
            for other in [Chart({"a": [many]}), Chart({"a": [many + 1]}), Chart({"a": [0, BIG, BIG]})]:
                self.assertFailsAlike(TooMany, TOO_MANY_RACES, season_of, chart=other, many=many)
        for other in [Chart({"a": [41]}), Chart({"a": [BIG], "b": [BIG]}), Chart({"a": [20], "b": [21]})]:
            self.assertFailsAlike(DoesNotFit, {"many": 40}, season_of, chart=other, many=40)

    def test_nothing_changes(self):
        chart = year_chart()
        for call in [lambda: season_of(chart, 2), lambda: season_of(chart, 41), lambda: does_fit(chart, -1)]:
            with self.assertRaises((ValueError, RuntimeError, ArithmeticError)):
                call()
        for call in [lambda: season_of(chart, 5), lambda: what_bars(chart, 1), lambda: least_races(chart)]:
            self.assertEqual(call(), call())
        self.assertEqual(chart, year_chart())


if __name__ == "__main__":
    unittest.main()
