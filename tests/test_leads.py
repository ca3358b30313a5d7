import random
import unittest
from itertools import combinations, product

from anypoints.charts import Chart, chart_of
from anypoints.errors import (InvalidChart, InvalidFamily, InvalidNumber, InvalidSeason, NoRivals, UnknownRider)
from anypoints.families import Family
from anypoints.leads import fewest_voided, gaps, is_sure, most_left, relation, voiding
from anypoints.seasons import Season
from tests.helpers import (BIG, Case, drawn_charts, drawn_season, inside, lead, no_charts, no_counts, no_families,
                           no_names, no_seasons, scaled, seasons, sign, some_families)
from tests.test_families import plain_corners
from tests.test_seasons import year

FREE = Family(5)
WORDS = {(0,): "level", (1,): "ahead", (-1,): "behind", (0, 1): "never behind", (-1, 0): "never ahead"}


def year_chart():
    return chart_of(year())


def corner_gaps(chart, family, one, rival):
    """The gaps as sums at the corners, which the test finds in its own way."""
    corners = plain_corners(family.paid, family.sayings())
    return [sum((a - b) * point for a, b, point in zip(chart[one], chart[rival], corner)) for corner in corners]


def charts():
    return [year_chart(), Chart({"a": [], "b": []}), Chart({"a": [BIG], "b": [0, BIG]})] + drawn_charts(51, 25, 2, 2)


def never_behind(chart, family, one, rival):
    return all(gap >= 0 for gap in corner_gaps(chart, family, one, rival))


class GapsTest(Case):
    def test_told_ones(self):
        self.assertEqual(gaps(year_chart(), FREE, "a", "b"), [1, -1, -1, 0, 0])
        self.assertEqual(gaps(chart=year_chart(), family=Family(3, (1, -2)), one="b", rival="a"), [-1, 0, 0])
        self.assertEqual(relation(year_chart(), FREE, "a", "b"), "open")
        self.assertEqual(relation(chart=year_chart(), family=FREE, one="b", rival="c"), "ahead")

    def test_against_sums_at_corners(self):
        for family in some_families():
            for chart in charts()[:12]:
                for one, rival in product(chart.riders(), chart.riders()):
                    found = gaps(chart, family, one, rival)
                    self.assertEqual(found, corner_gaps(chart, family, one, rival))
                    self.assertEqual([type(gap) for gap in found], [int] * len(found))

    def test_big_counts(self):
        chart = Chart({"a": [BIG, 0, BIG], "b": [1, BIG, 0, 0, BIG]})
        self.assertEqual(gaps(chart, FREE, "a", "b"), [BIG - 1, -1, BIG - 1, BIG - 1, -1])

    def test_oneself(self):
        for family, chart in product(some_families(), charts()[:6]):
            for rider in chart.riders():
                self.assertEqual(gaps(chart, family, rider, rider), [0] * len(family.corners()))
                self.assertEqual(relation(chart, family, rider, rider), "level")


class RelationTest(Case):
    def test_each_word(self):
        told = [([1, 2], [1, 2], "level"), ([2], [1], "ahead"), ([1], [2], "behind"), ([1, 1], [1], "never behind"),
                ([1], [1, 1], "never ahead"), ([1, 0, 0], [0, 2], "open"), ([0, 2], [1], "open"),
                ([], [], "level"), ([1], [0, 1], "never behind"), ([0, 1], [1], "never ahead")]
        for one, rival, word in told:
            chart = Chart({"a": one, "b": rival})
            self.assertEqual(relation(chart, FREE, "a", "b"), word)

    def test_by_families(self):
        chart = Chart({"a": [1], "b": [0, 2], "c": [0, 1, 1]})
        told = [(FREE, "a", "b", "open"), (Family.doubling(2), "a", "b", "never behind"),
                (Family(1), "a", "b", "ahead"), (Family(1), "b", "c", "level"),
                (FREE, "b", "c", "never behind"), (Family(5, (-1, 3)), "a", "b", "open"),
                (Family(2, (-1, 2)), "b", "a", "never behind"), (Family(2, (-2, 3)), "b", "a", "ahead"),
                (Family(2, (-2, 3)), "a", "b", "behind"), (Family.doubling(3), "a", "c", "ahead"),
                (Family(3, (1, -1, -1)), "a", "c", "never behind"), (Family(5, (0, 0, -1)), "c", "b", "never ahead")]
        for family, one, rival, word in told:
            self.assertEqual(relation(chart, family, one, rival), word, (family, one, rival))

    def test_what_each_table_says(self):
        found = {}
        for family in some_families():
            told = [scaled(table) for table in inside(family)]
            for chart in charts():
                for one, rival in combinations(chart.riders(), 2):
                    signs = {sign(lead(chart, one, rival, scale)) for scale in told}
                    word = relation(chart, family, one, rival)
                    self.assertEqual(word, WORDS.get(tuple(sorted(signs)), "open"))
                    back = {"ahead": "behind", "never behind": "never ahead"}
                    back = {**back, **{value: key for key, value in back.items()}}
                    self.assertEqual(relation(chart, family, rival, one), back.get(word, word))
                    found[word] = found.get(word, 0) + 1
        self.assertEqual(sorted(found), ["ahead", "behind", "level", "never ahead", "never behind", "open"])
        self.assertGreater(min(found.values()), 20)

    def test_errors(self):
        chart = year_chart()
        for call in [gaps, relation]:
            for value in no_charts():
                self.assertFailsAlike(InvalidChart, {"value": value}, call, chart=value, family=FREE, one="a",
                                      rival="b")
                self.assertFails(InvalidChart, {"value": value}, call, value, None, None, None)
            for value in no_families():
                self.assertFailsAlike(InvalidFamily, {"value": value}, call, chart=chart, family=value, one="a",
                                      rival="b")
                self.assertFails(InvalidFamily, {"value": value}, call, chart, value, "z", "y")
            for value in no_names() + ["z", "e"]:
                self.assertFailsAlike(UnknownRider, {"value": value}, call, chart=chart, family=FREE, one=value,
                                      rival="y")
                self.assertFailsAlike(UnknownRider, {"value": value}, call, chart=chart, family=FREE, one="a",
                                      rival=value)


class SureTest(Case):
    def test_told_ones(self):
        chart = Chart({"a": [5], "b": [2, 2], "c": [0, 0, 0, 0, 1]})
        self.assertEqual([is_sure(chart, FREE, "a", left) for left in range(4)], [True, True, False, False])
        self.assertEqual([is_sure(chart, Family(1), "a", left) for left in [3, 4]], [True, False])
        self.assertEqual([is_sure(chart, Family.doubling(2), "a", left) for left in [2, 3]], [True, False])
        self.assertEqual([most_left(chart, family, "a") for family in [FREE, Family(1), Family.doubling(2)]], [1, 3, 2])
        self.assertIsNone(most_left(chart, FREE, "b"))
        self.assertIsNone(most_left(chart=chart, family=Family(1), rider="c"))
        self.assertEqual(most_left(Chart({"a": [1], "b": [1]}), FREE, "a"), 0)
        self.assertIs(is_sure(chart=chart, family=FREE, rider="a", left=0), True)

    def test_at_the_border(self):
        found = {}
        for family in some_families():
            for chart in charts():
                for rider in chart.riders():
                    corners = plain_corners(family.paid, family.sayings())
                    wanted = [gap // corner[0] for rival in chart.riders() if rival != rider
                              for gap, corner in zip(corner_gaps(chart, family, rider, rival), corners)]
                    most = most_left(chart, family, rider)
                    self.assertEqual(most, min(wanted) if min(wanted) >= 0 else None)
                    self.assertIs(is_sure(chart, family, rider, 0), most is not None)
                    if most is not None:
                        self.assertIs(type(most), int)
                        self.assertIs(is_sure(chart, family, rider, most), True)
                        self.assertIs(is_sure(chart, family, rider, most + 1), False)
                    found[most] = True
        self.assertGreater(len(found), 3)

    def test_whatever_the_races_bring(self):
        draw = random.Random(52)
        for family in some_families():
            told = [scaled(table) for table in inside(family)]
            for chart in drawn_charts(53, 8, 6, 2):
                for rider, left in product(chart.riders(), range(3)):
                    others = [rival for rival in chart.riders() if rival != rider]
                    ends = [chart + chart_of(drawn_season(draw, chart.riders(), left)) for _ in range(4)]
                    ends += [chart + chart_of(Season(chart.riders(), [[rival]] * left)) for rival in others]
                    behind = any(lead(end, rider, rival, scale) < 0
                                 for end in ends for rival in others for scale in told)
                    self.assertIs(is_sure(chart, family, rider, left), not behind)

    def test_one_rider(self):
        chart = Chart({"a": [0, 1]})
        for left in [0, 1, BIG]:
            self.assertIs(is_sure(chart, FREE, "a", left), True)
        self.assertFailsAlike(NoRivals, {"value": "a"}, most_left, chart=chart, family=FREE, rider="a")
        self.assertFails(UnknownRider, {"value": "b"}, most_left, chart, FREE, "b")
        self.assertFails(InvalidFamily, {"value": 5}, most_left, chart, 5, "a")

    def test_big_numbers(self):
        chart = Chart({"a": [BIG], "b": [1, 3]})
        self.assertEqual(most_left(chart, Family(1), "a"), BIG - 1)
        self.assertEqual(most_left(chart, FREE, "a"), BIG - 4)
        self.assertIs(is_sure(chart, FREE, "a", BIG - 4), True)
        self.assertIs(is_sure(chart, FREE, "a", BIG - 3), False)
        self.assertIs(is_sure(chart, FREE, "b", BIG), False)

    def test_errors(self):
        chart = year_chart()
        for value in no_charts():
            self.assertFailsAlike(InvalidChart, {"value": value}, is_sure, chart=value, family=FREE, rider="a", left=0)
            self.assertFails(InvalidChart, {"value": value}, is_sure, value, 1, 1, -1)
            self.assertFailsAlike(InvalidChart, {"value": value}, most_left, chart=value, family=FREE, rider="a")
        for value in no_families():
            self.assertFailsAlike(InvalidFamily, {"value": value}, is_sure, chart=chart, family=value, rider="a",
                                  left=0)
            self.assertFails(InvalidFamily, {"value": value}, is_sure, chart, value, "z", -1)
            self.assertFailsAlike(InvalidFamily, {"value": value}, most_left, chart=chart, family=value, rider="a")
        for value in no_names() + ["z", "e"]:
            self.assertFailsAlike(UnknownRider, {"value": value}, is_sure, chart=chart, family=FREE, rider=value,
                                  left=0)
            self.assertFails(UnknownRider, {"value": value}, is_sure, chart, FREE, value, None)
            self.assertFailsAlike(UnknownRider, {"value": value}, most_left, chart=chart, family=FREE, rider=value)
        for value in no_counts():
            self.assertFailsAlike(InvalidNumber, {"value": value}, is_sure, chart=chart, family=FREE, rider="a",
                                  left=value)


class VoidingTest(Case):
    def voided(self, season, rival, positions):
        for position in positions:
            season = season.voided(rival, position)
        return season

    def check(self, season, family, one, rival):
        held = [k for k in range(len(season)) if season.place(rival, k) is not None]
        found = voiding(season, family, one, rival)
        many = fewest_voided(season, family, one, rival)
        self.assertIs(type(many), int)
        self.assertEqual(len(found), many)
        self.assertEqual(found, sorted(set(found)))
        self.assertTrue(set(found) <= set(held))
        self.assertTrue(never_behind(chart_of(self.voided(season, rival, found)), family, one, rival))
        if many > 0:
            for chosen in combinations(held, many - 1):
                rest = chart_of(self.voided(season, rival, chosen))
                self.assertFalse(never_behind(rest, family, one, rival))
        return many

    def test_told_ones(self):
        self.assertEqual([fewest_voided(year(), FREE, one, rival) for one, rival in ["ab", "ba", "ca", "ac", "aa"]],
                         [1, 1, 2, 0, 0])
        self.assertEqual(voiding(year(), FREE, "a", "b"), [1])
        self.assertEqual(voiding(season=year(), family=Family(1), one="b", rival="a") in [[0], [2]], True)
        self.assertEqual(fewest_voided(season=year(), family=Family(1), one="d", rival="a"), 2)
        self.assertEqual([voiding(year(), FREE, "a", "a"), voiding(Season(["a", "b"]), FREE, "a", "b")], [[], []])
        last = Season(["a", "b"], [[None] * 5 + ["b"], ["b"], ["a"], [None, "b"], [None, "a"]])
        self.assertEqual(voiding(last, FREE, "a", "b"), [])
        self.assertEqual(voiding(last.without_race(2), FREE, "a", "b"), [1])
        self.assertEqual(voiding(last.without_race(2).without_race(3), FREE, "a", "b"), [1, 2])

    def test_against_all_sets_of_results(self):
        found = {}
        for at, season in enumerate(seasons()):
            family = some_families()[at % len(some_families())]
            for one, rival in product(season.riders()[:3], season.riders()[:3]):
                for told in [family, FREE]:
                    many = self.check(season, told, one, rival)
                    found[many] = True
        self.assertGreater(len(found), 3)

    def test_forty_races(self):
        season = Season(["a", "b"], [["b", "a"]] * 40)
        self.assertEqual(fewest_voided(season, FREE, "a", "b"), 40)
        self.assertEqual(voiding(season, FREE, "a", "b"), list(range(40)))
        self.assertEqual(fewest_voided(season, Family(2, (-2, 3)), "a", "b"), 14)
        self.assertEqual(fewest_voided(season, FREE, "b", "a"), 0)

    def test_errors(self):
        for call in [fewest_voided, voiding]:
            for value in no_seasons():
                self.assertFailsAlike(InvalidSeason, {"value": value}, call, season=value, family=FREE, one="a",
                                      rival="b")
                self.assertFails(InvalidSeason, {"value": value}, call, value, None, None, None)
            for value in no_families():
                self.assertFailsAlike(InvalidFamily, {"value": value}, call, season=year(), family=value, one="a",
                                      rival="b")
                self.assertFails(InvalidFamily, {"value": value}, call, year(), value, "z", "y")
            for value in no_names() + ["z", "e"]:
                self.assertFailsAlike(UnknownRider, {"value": value}, call, season=year(), family=FREE, one=value,
                                      rival="y")
                self.assertFailsAlike(UnknownRider, {"value": value}, call, season=year(), family=FREE, one="a",
                                      rival=value)


class StayingTest(Case):
    def test_returned_lists_are_new(self):
        chart, season = year_chart(), year()
        self.assertNew(lambda: gaps(chart, FREE, "a", "b"))
        self.assertNew(lambda: voiding(season, FREE, "a", "b"))
        self.assertNew(lambda: voiding(season, FREE, "a", "a"))
        self.assertEqual([chart, season], [year_chart(), year()])

    def test_nothing_changes(self):
        chart, season, family = year_chart(), year(), Family(3, (1, -2))
        for call in [lambda: gaps(chart, family, "a", "z"), lambda: relation(chart, 3, "a", "b"),
                     lambda: is_sure(chart, family, "a", -1), lambda: most_left(Chart({"a": []}), family, "a"),
                     lambda: voiding(season, family, "z", "a")]:
            with self.assertRaises((ValueError, LookupError, RuntimeError)):
                call()
        for call in [gaps, relation]:
            self.assertEqual(call(chart, family, "a", "b"), call(chart, family, "a", "b"))
        fewest_voided(season, family, "d", "a")
        is_sure(chart, family, "a", 3)
        self.assertEqual([chart, season, family], [year_chart(), year(), Family(3, (1, -2))])


if __name__ == "__main__":
    unittest.main()
