import random
import unittest
from itertools import product
from operator import mul

from anypoints.charts import Chart, chart_of
from anypoints.errors import InvalidChart, InvalidEnd, InvalidFamily, InvalidNumber, UnknownRider
from anypoints.families import Family
from anypoints.mixes import ENDS, bars, is_so
from anypoints.ratios import Ratio
from anypoints.seasons import Season
from anypoints.tables import Table
from anypoints.winners import all_who, can_be, can_still, mix_against, table_for
from tests.helpers import (BIG, Case, drawn_charts, fractions, keeps, no_charts, no_counts, no_families, no_names,
                           points, some_families)
from tests.test_families import plain_corners
from tests.test_mixes import barred, comes_to, no_ends, year_chart

FREE = Family(5)

# Where a and its rivals are level at all corners, or at all but one; rows of noughts; large counts.
SPECIAL = [Chart({"a": []}), Chart({"a": [0, 0, 3]}), Chart({"a": [], "b": []}), Chart({"a": [1], "b": []}),
           Chart({"a": [1, 2], "b": [1, 2], "c": [1, 2]}), Chart({"a": [1, 2], "b": [1, 2], "c": [2, 1]}),
           Chart({"a": [2, 2], "b": [1, 3], "c": [3, 1]}), Chart({"a": [2, 2, 2], "b": [1, 3, 2], "c": [3, 1, 3]}),
           Chart({"a": [BIG, 1], "b": [BIG - 1, BIG], "c": [0, BIG, BIG, BIG], "d": [1, 2 * BIG, 0, BIG]}),
           Chart({"a": [BIG, BIG], "b": [BIG - 1, BIG + 1], "c": [BIG + 1, BIG - 1]}),
           Chart({rider: [] for rider in "abcdef"}), Chart({rider: [k, 5 - k] for k, rider in enumerate("abcdef")})]

# a, b, c and d have such points by the first-1, first-2 and first-3 table that a is ahead between all three alone.
BETWEEN_THREE = Chart({"a": [6, 6, 6], "b": [3, 10, 6], "c": [7, 2, 10], "d": [7, 6, 2]})
# Here a is level with all of them where the three are taken equally often, and behind some one elsewhere.
AT_ONE_POINT = Chart({"a": [6, 6, 6], "b": [4, 9, 6], "c": [7, 3, 9], "d": [7, 6, 3]})


def others_of(chart, rider):
    return [other for other in chart.riders() if other != rider]


def won(chart, rider, many):
    """The chart with so many first places more, put together by hand."""
    rows = chart.rows()
    rows[rider][0] += many
    return Chart(rows)


def small_tables(family, most):
    """All tables of the family with points up to this, told by whole numbers."""
    return [told for told in product(range(most + 1), repeat=5) if keeps(family, told)]


class EndsCase(Case):
    def judged(self, chart, family, rider, end):
        """Checks that just one of a table and a mix shows the truth; whether it is a table."""
        named = {"chart": chart, "family": family, "rider": rider, "end": end}
        table, mix = table_for(**named), mix_against(**named)
        self.assertIs(can_be(**named), table is not None)
        self.assertEqual([table, mix], [table_for(chart, family, rider, end), mix_against(chart, family, rider, end)])
        if table is not None:
            self.assertIsNone(mix)
            self.assertInside(table, family)
            others = [points(chart, table, other) for other in others_of(chart, rider)]
            self.assertTrue(comes_to(points(chart, table, rider), others, end))
            self.assertIs(is_so(chart, table, rider, end), True)
            return True
        self.assertIs(type(mix), dict)
        self.assertEqual(list(mix), sorted(mix))
        self.assertGreater(len(mix), 0)
        self.assertTrue(set(mix) <= set(others_of(chart, rider)))
        self.assertEqual({type(part) for part in mix.values()}, {Ratio})
        parts = fractions(mix.values())
        self.assertEqual(sum(parts), 1)
        self.assertGreater(min(parts), 0)
        for corner in plain_corners(family.paid, family.sayings()):
            mixed = sum(part * sum(map(mul, chart[rival], corner)) for rival, part in zip(mix, parts))
            self.assertTrue(barred(sum(map(mul, chart[rider], corner)), mixed, end))
        self.assertIs(bars(chart, family, rider, end, mix), True)
        return False


class JudgedTest(EndsCase):
    def test_drawn_charts(self):
        found = {}
        for family in some_families():
            for chart in [year_chart()] + SPECIAL + drawn_charts(81, 10, 2, 2) + drawn_charts(82, 4, 9, 3):
                for rider, end in product(chart.riders(), ENDS):
                    told = self.judged(chart, family, rider, end)
                    found[end, told] = found.get((end, told), 0) + 1
        self.assertEqual(len(found), 8)
        self.assertGreater(min(found.values()), 300)

    def test_families_of_one_and_two_corners(self):
        one = [Family(1), Family(2, (1, -1), (-1, 1)), Family(3, (-1, 2), (1, -2), (0, 1, -3), (0, -1, 3))]
        two = [Family(2), Family(3, (-1, 1)), Family(2, (2, -3)), Family(4, (-1, 1), (0, 0, -1, 1))]
        self.assertEqual([len(family.corners()) for family in one + two], [1] * 3 + [2] * 4)
        for family, chart in product(one + two, SPECIAL + drawn_charts(83, 15, 2, 2)):
            for rider, end in product(chart.riders(), ENDS):
                told = self.judged(chart, family, rider, end)
                if family in one:
                    table = family.corners()[0]
                    others = [points(chart, table, other) for other in others_of(chart, rider)]
                    self.assertIs(told, comes_to(points(chart, table, rider), others, end))

    def test_drawn_sayings(self):
        draw = random.Random(84)
        tried = {}
        while len(tried) < 5 or min(tried.values()) < 12:
            many = draw.randint(0, 4)
            sayings = [tuple(draw.randint(-3, 4) for _ in range(5)) for _ in range(many)]
            paid = draw.randint(2, 5)
            if not all(any(saying) for saying in sayings) or not plain_corners(paid, sayings):
                continue
            tried[many] = tried.get(many, 0) + 1
            for chart in drawn_charts(draw.random(), 2, 3, 2):
                for rider, end in product(chart.riders(), ENDS):
                    self.judged(chart, Family(paid, *sayings), rider, end)

    def test_small_tables_one_by_one(self):
        families = [Family(3), Family(2, (1, -2)), Family(3, (1, -2)), Family(4, (-2, 3)), Family.shrinking(3), FREE]
        for family in families:
            tables = small_tables(family, 5)
            self.assertGreater(len(tables), 5)
            for chart in drawn_charts(85, 8, 2, 2):
                found = {table: {rider: sum(map(mul, chart[rider], table)) for rider in chart.riders()}
                         for table in tables}
                for rider, end in product(chart.riders(), ENDS):
                    if not can_be(chart, family, rider, end):
                        for told in found.values():
                            others = [told[other] for other in others_of(chart, rider)]
                            self.assertFalse(comes_to(told[rider], others, end))

    def test_one_rider(self):
        for family, row, end in product(some_families(), [[], [3], [0, 0, BIG]], ENDS):
            self.assertIs(self.judged(Chart({"a": row}), family, "a", end), True)

    def test_equal_rows(self):
        for family in some_families():
            for row in [[], [1, 2, 3], [BIG] * 5]:
                chart = Chart({rider: row for rider in "abc"})
                self.assertEqual([self.judged(chart, family, "b", end) for end in ENDS], [True, False, True, False])

    def test_large_numbers(self):
        draw = random.Random(86)
        sayings = [tuple(draw.randint(-BIG, BIG) for _ in range(4)) + (BIG,) for _ in range(2)]
        families = [FREE, Family(5, (BIG, 1 - BIG)), Family(3, (1 - BIG, BIG), (1, 0, -2)),
                    Family(5, (BIG, -BIG + 1, 1), *[saying for saying in sayings if sum(saying) > 0])]
        for family in families:
            for _ in range(4):
                chart = Chart({rider: [draw.randint(0, BIG) for _ in range(5)] for rider in "abcdef"})
                for rider, end in product(chart.riders(), ENDS):
                    self.judged(chart, family, rider, end)


class ToldTest(EndsCase):
    def told(self, chart, family, rider):
        return [self.judged(chart, family, rider, end) for end in ENDS]

    def test_year(self):
        chart = year_chart()
        self.assertEqual(all_who(chart, FREE, "first"), ["a", "b"])
        self.assertEqual(all_who(chart=chart, family=Family(1), end="last alone"), [])
        self.assertEqual(all_who(chart, FREE, "last alone"), ["d"])
        self.assertEqual(all_who(chart, Family(1), "last"), ["c", "d"])
        self.assertIs(can_be(chart, Family(1), "b", "first"), False)
        self.assertEqual(mix_against(chart, Family(1), "b", "first"), {"a": Ratio(1)})

    def test_between_two_corners_alone(self):
        chart = Chart({"a": [4, 4], "b": [2, 7], "c": [5, 1]})
        for family in [Family(2), FREE]:
            for corner in family.corners():
                self.assertIs(is_so(chart, corner, "a", "first"), False)
        self.assertEqual(self.told(chart, Family(2), "a"), [True, True, False, False])
        self.assertEqual(self.told(chart, Family(2, (-2, 5)), "a"), [True, True, False, False])
        self.assertEqual(self.told(chart, Family(2, (-1, 2)), "a"), [True, True, False, False])
        self.assertEqual(self.told(chart, Family(2, (-2, 3)), "a"), [True, False, False, False])
        self.assertEqual(self.told(chart, Family(2, (-3, 4)), "a"), [False, False, False, False])
        turned = Chart({"a": [3, 3], "b": [5, 0], "c": [2, 6]})
        self.assertEqual(self.told(turned, Family(2), "a"), [False, False, True, True])

    def test_at_one_table_alone(self):
        chart = Chart({"a": [4, 4], "b": [3, 6], "c": [5, 2]})
        self.assertEqual(self.told(chart, Family(2), "a"), [True, False, True, False])
        self.assertTrue(table_for(chart, Family(2), "a", "first").is_like(Table(2, 1)))
        self.assertTrue(table_for(chart, Family(2), "a", "last").is_like(Table(2, 1)))
        self.assertEqual(self.told(chart, Family(2, (2, -3)), "a"), [True, False, True, False])
        for family in [Family(2, (5, -11)), Family(2, (-5, 9))]:
            self.assertEqual(self.told(chart, family, "a"), [False] * 4)

    def test_between_three_corners_alone(self):
        chart = BETWEEN_THREE
        self.assertEqual(self.told(chart, Family(3), "a"), [True, True, False, False])
        for family in [Family(2), Family(3, (-1, 1)), Family(3, (0, -1, 1))]:
            # On the borders of the triangle some rival is ahead.
            self.assertEqual(self.told(chart, family, "a"), [False] * 4)

    def test_at_one_point_of_a_triangle(self):
        # There a is level with all others, so e tells at which of the two ends this may happen.
        self.assertEqual(self.told(AT_ONE_POINT, Family(3), "a"), [True, False, True, False])
        behind = {**AT_ONE_POINT.rows(), "e": []}
        self.assertEqual(self.told(Chart(behind), Family(3), "a"), [True, False, False, False])
        self.assertTrue(table_for(Chart(behind), Family(3), "a", "first").is_like(Table(3, 2, 1)))
        behind["d"][0] += 1
        self.assertEqual(self.told(Chart(behind), Family(3), "a"), [False] * 4)
        turned = {"a": [5, 5, 5], "b": [7, 2, 5], "c": [4, 8, 2], "d": [4, 5, 8], "e": [9, 9, 9]}
        self.assertEqual(self.told(Chart(turned), Family(3), "a"), [False, False, True, False])
        self.assertTrue(table_for(Chart(turned), Family(3), "a", "last").is_like(Table(3, 2, 1)))
        turned["c"] = [3, 8, 2]
        self.assertEqual(self.told(Chart(turned), Family(3), "a"), [False] * 4)

    def test_at_one_border_alone(self):
        # By the first-1 table a is level with b, by all others behind.
        chart = Chart({"a": [2], "b": [2, 1]})
        self.assertEqual(self.told(chart, FREE, "a"), [True, False, True, True])
        self.assertEqual(self.told(chart, Family(5, (-2, 3)), "a"), [False, False, True, True])
        self.assertEqual(self.told(chart, FREE, "b"), [True, True, True, False])
        self.assertEqual(self.told(chart, Family(1), "b"), [True, False, True, False])
        # By the first-3 table, the last corner, a is level with both, who share the places.
        chart = Chart({"a": [1, 1, 2], "b": [2, 2, 0], "c": [2, 1, 1]})
        self.assertEqual(self.told(chart, Family(3), "a"), [True, False, True, True])
        self.assertEqual(self.told(chart, Family(2), "a"), [False, False, True, True])

    def test_all_who_against_each(self):
        for family in some_families():
            for chart in SPECIAL + drawn_charts(87, 6, 2):
                for end in ENDS:
                    wanted = [rider for rider in chart.riders() if can_be(chart, family, rider, end)]
                    self.assertEqual(all_who(chart, family, end), wanted)
                for end in ["first", "last"]:
                    self.assertGreater(len(all_who(chart, family, end)), 0)

    def test_all_who_of_six(self):
        chart = SPECIAL[-1]
        self.assertEqual(all_who(chart, Family(2), "first"), list("abcdef"))
        self.assertEqual(all_who(chart, Family(2), "first alone"), ["f"])
        self.assertEqual(all_who(chart, Family(2), "last alone"), ["a"])
        self.assertEqual(all_who(chart, Family(1), "last"), ["a"])
        self.assertEqual(all_who(Chart({rider: [] for rider in "fedcba"}), FREE, "last"), list("abcdef"))


class StillTest(Case):
    def test_against_more_first_places(self):
        found = {}
        for family in some_families():
            for chart in SPECIAL[:9] + drawn_charts(88, 8, 4):
                for rider, left, end in product(chart.riders(), [0, 1, 2, 5, BIG], ENDS[:2]):
                    told = can_still(chart, family, rider, left, end)
                    self.assertIs(told, can_be(won(chart, rider, left), family, rider, end))
                    found[left, told] = found.get((left, told), 0) + 1
        self.assertEqual(len(found), 10)
        self.assertGreater(min(found[left, told] for left, told in found if left < BIG), 50)

    def test_told_ones(self):
        chart = year_chart()
        told = [can_still(chart, Family(1), "d", left, end) for left in range(4) for end in ENDS[:2]]
        self.assertEqual(told, [False, False, False, False, True, False, True, True])
        self.assertIs(can_still(chart=chart, family=FREE, rider="b", left=0, end="first alone"), True)
        self.assertIs(can_still(chart, Family(1), "b", 0, "first"), False)
        self.assertIs(can_still(Chart({"a": [], "b": [BIG]}), FREE, "a", BIG - 1, "first"), False)
        self.assertIs(can_still(Chart({"a": [], "b": [BIG]}), FREE, "a", BIG, "first"), True)
        self.assertIs(can_still(Chart({"a": [], "b": [BIG]}), FREE, "a", BIG, "first alone"), False)
        self.assertIs(can_still(Chart({"a": []}), FREE, "a", 0, "first alone"), True)

    def test_no_race_does_more(self):
        # Whatever races are drawn, they bring the rider no further than winning them all.
        draw = random.Random(89)
        for family in some_families()[::2]:
            for chart in drawn_charts(90, 6, 2, 2):
                riders = chart.riders()
                races = [draw.sample(riders, draw.randint(0, len(riders))) for _ in range(3)]
                moved = chart + chart_of(Season(riders, races))
                for rider, end in product(riders, ENDS[:2]):
                    if can_be(moved, family, rider, end):
                        self.assertIs(can_still(chart, family, rider, 3, end), True)

    def test_errors(self):
        chart = year_chart()
        for value in no_counts():
            self.assertFailsAlike(InvalidNumber, {"value": value}, can_still, chart=chart, family=FREE, rider="a",
                                  left=value, end="first")
            self.assertFails(InvalidNumber, {"value": value}, can_still, chart, FREE, "a", value, "last")
        for value in no_ends() + ["last", "last alone"]:
            self.assertFailsAlike(InvalidEnd, {"value": value}, can_still, chart=chart, family=FREE, rider="a", left=1,
                                  end=value)
        for left in [None, -1, 2]:
            for value in no_charts():
                self.assertFailsAlike(InvalidChart, {"value": value}, can_still, chart=value, family=FREE, rider="a",
                                      left=left, end="first")
                self.assertFails(InvalidChart, {"value": value}, can_still, value, None, "z", left, "end")
            for value in no_families():
                self.assertFailsAlike(InvalidFamily, {"value": value}, can_still, chart=chart, family=value, rider="a",
                                      left=left, end="first")
                self.assertFails(InvalidFamily, {"value": value}, can_still, chart, value, "z", left, "end")
            for value in no_names() + ["z", "e"]:
                self.assertFailsAlike(UnknownRider, {"value": value}, can_still, chart=chart, family=FREE, rider=value,
                                      left=left, end="first")
                self.assertFails(UnknownRider, {"value": value}, can_still, chart, FREE, value, left, "last")


class ErrorsTest(Case):
    def test_riders_and_ends(self):
        chart = year_chart()
        for call in [can_be, table_for, mix_against]:
            for value in no_charts():
                self.assertFailsAlike(InvalidChart, {"value": value}, call, chart=value, family=FREE, rider="a",
                                      end="last")
                self.assertFails(InvalidChart, {"value": value}, call, value, None, "z", "end")
            for value in no_families():
                self.assertFailsAlike(InvalidFamily, {"value": value}, call, chart=chart, family=value, rider="a",
                                      end="last")
                self.assertFails(InvalidFamily, {"value": value}, call, chart, value, "z", "end")
            for value in no_names() + ["z", "e"]:
                self.assertFailsAlike(UnknownRider, {"value": value}, call, chart=chart, family=FREE, rider=value,
                                      end="last")
                self.assertFails(UnknownRider, {"value": value}, call, chart, FREE, value, "end")
            for value in no_ends():
                self.assertFailsAlike(InvalidEnd, {"value": value}, call, chart=chart, family=FREE, rider="a",
                                      end=value)

    def test_all_who(self):
        for value in no_charts():
            self.assertFailsAlike(InvalidChart, {"value": value}, all_who, chart=value, family=FREE, end="last")
            self.assertFails(InvalidChart, {"value": value}, all_who, value, 5, "end")
        for value in no_families():
            self.assertFailsAlike(InvalidFamily, {"value": value}, all_who, chart=year_chart(), family=value,
                                  end="first")
            self.assertFails(InvalidFamily, {"value": value}, all_who, year_chart(), value, None)
        for value in no_ends():
            self.assertFailsAlike(InvalidEnd, {"value": value}, all_who, chart=year_chart(), family=FREE, end=value)


class StayingTest(Case):
    def test_nothing_changes(self):
        chart, family = year_chart(), Family(3, (1, -2))
        self.assertNew(lambda: mix_against(chart, family, "c", "first"))
        self.assertNew(lambda: all_who(chart, family, "first"))
        self.assertNew(lambda: all_who(chart, Family(1), "last alone"))
        for call in [lambda: can_be(chart, family, "z", "last"), lambda: table_for(chart, family, "a", "end"),
                     lambda: mix_against(chart, 5, "a", "last"), lambda: can_still(chart, family, "a", -1, "first")]:
            with self.assertRaises((ValueError, LookupError)):
                call()
        for end in ENDS:
            self.assertEqual(table_for(chart, family, "b", end), table_for(chart, family, "b", end))
        self.assertEqual([chart, family], [year_chart(), Family(3, (1, -2))])

    def test_sequence_of_rows(self):
        for chart, end in product(drawn_charts(91, 10, 2, 2), ENDS):
            turned = Chart(dict(reversed(chart.rows().items())))
            for rider in chart.riders():
                self.assertEqual(table_for(turned, FREE, rider, end), table_for(chart, FREE, rider, end))
                self.assertEqual(mix_against(turned, FREE, rider, end), mix_against(chart, FREE, rider, end))

    def test_whole_tables(self):
        table = table_for(year_chart(), FREE, "a", "first")
        self.assertEqual([point.bottom for point in table.points()], [1] * 5)


if __name__ == "__main__":
    unittest.main()
