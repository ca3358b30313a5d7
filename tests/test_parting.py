import random
import unittest
from itertools import combinations, product
from math import gcd

from anypoints.charts import Chart, chart_of
from anypoints.errors import InvalidChart, InvalidFamily, OtherRiders, UnknownRider
from anypoints.families import Family
from anypoints.parting import are_alike, is_parting, parting, turned, turning
from anypoints.ratios import Ratio
from anypoints.seasons import Season
from anypoints.standings import standing
from anypoints.tables import Table
from tests.helpers import (BIG, Case, drawn_chart, inside, lead, no_charts, no_families, no_names, no_tables, scaled,
                           seasons, sign, some_families)
from tests.test_families import plain_corners
from tests.test_seasons import year

FREE = Family(5)


def told_chart():
    return chart_of(year())


def other_chart():
    return Chart({"a": [0, 3], "b": [1, 1], "c": [], "d": []})


def scales(family):
    """Points of many tables of the family: of its corners, and of sums of each two of them."""
    corners = plain_corners(family.paid, family.sayings())
    found = list(corners)
    for one, other in combinations(corners, 2):
        for a, b in product(range(1, 8), repeat=2):
            if gcd(a, b) == 1:
                found.append([a * x + b * y for x, y in zip(one, other)])
    return found


SCALES = [(family, scales(family)) for family in some_families()]


def pairs(seed, many, size, least=2):
    """Pairs of charts of the same riders, often much like each other."""
    draw = random.Random(seed)
    found = []
    for k in range(many):
        riders = "abcdef"[:draw.randint(least, 4)]
        one = drawn_chart(draw, riders, size)
        if k % 3 == 0:
            other = drawn_chart(draw, riders, size)
        else:
            rows = one.rows()
            row = rows[draw.choice(riders)]
            row[draw.randrange(5)] += draw.randint(1, 2)
            other = Chart(rows)
        found.append((one, other) if k % 2 else (other, one))
    return found


class AlikeTest(Case):
    def check(self, chart, other, family, told):
        """Checks what is told of the two charts against the tables with the points told."""
        found = parting(chart, other, family)
        self.assertIs(are_alike(chart, other, family), found is None)
        if found is None:
            for one, rival in combinations(chart.riders(), 2):
                for scale in told:
                    self.assertEqual(sign(lead(chart, one, rival, scale)), sign(lead(other, one, rival, scale)))
            return False
        self.assertIs(type(found), tuple)
        table, one, rival = found
        self.assertIs(type(table), Table)
        self.assertIn(table, family)
        self.assertTrue({one, rival} <= set(chart.riders()))
        scale = scaled(table)
        self.assertNotEqual(sign(lead(chart, one, rival, scale)), sign(lead(other, one, rival, scale)))
        self.assertNotEqual(standing(chart, table), standing(other, table))
        self.assertIs(is_parting(chart, other, family, found), True)
        self.assertIs(is_parting(chart, other, family, (table * Ratio(2, 9), rival, one)), True)
        self.assertEqual(parting(chart, other, family), found)
        return True

    def test_against_many_tables(self):
        found = [0, 0]
        for family, told in SCALES:
            for chart, other in pairs(61, 30, 2):
                found[self.check(chart, other, family, told)] += 1
        self.assertGreater(min(found), 30)

    def test_equal_charts(self):
        for season, family in product(seasons()[::4], some_families()):
            chart = chart_of(season)
            for other in [chart, chart_of(season), 3 * chart, BIG * chart]:
                self.assertIs(are_alike(chart, other, family), True)
                self.assertIsNone(parting(other, chart, family))
                self.assertEqual(turned(chart, other, family), [])

    def test_moved_by_one_row(self):
        draw = random.Random(62)
        for family in some_families():
            chart = drawn_chart(draw, "abcd", 5)
            moved = Chart({rider: [many + 3 * k for k, many in enumerate(row)] for rider, row in chart.rows().items()})
            self.assertIs(are_alike(chart, moved, family), True)
            self.assertIs(are_alike(2 * moved, chart, family), True)

    def test_changed_in_one_count(self):
        chart = Chart({"a": [3, 1, 4, 1, 5], "b": [3, 1, 4, 1, 5]})
        for place in range(5):
            rows = chart.rows()
            rows["b"][place] += 1
            for paid in range(1, 6):
                self.assertIs(are_alike(chart, Chart(rows), Family(paid)), place >= paid)
        self.assertIs(are_alike(Chart({"a": [9, 9], "b": [1]}), Chart({"a": [9, 8], "b": [1]}), FREE), True)

    def test_parted_by_no_corner(self):
        chart, other = Chart({"a": [3], "b": [0, 4]}), Chart({"a": [5], "b": [0, 6]})
        for family in [FREE, Family(2)]:
            self.assertEqual(turned(chart, other, family), [("b", "a")])
            table, one, rival = parting(chart, other, family)
            self.assertEqual([one, rival], ["a", "b"])
            self.assertNotIn(table.reduced(), family.corners())
            self.assertIs(are_alike(chart, other, family), False)
        level = Chart({"a": [1], "b": [0, 2]})
        for double in [Chart({"a": [1], "b": [0, 3]}), Chart({"a": [2], "b": [0, 3]})]:
            self.assertIs(are_alike(level, double, FREE), False)
            self.assertIs(self.check(level, double, FREE, scales(FREE)), True)
        self.assertIs(are_alike(level, Chart({"a": [2], "b": [0, 4]}), FREE), True)

    def test_level_in_one_chart_only(self):
        chart, other = Chart({"a": [1], "b": [0, 2]}), Chart({"a": [1, 1], "b": [0, 2]})
        family = Family(2, (1, -2), (-1, 2))
        table, one, rival = parting(chart=chart, other=other, family=family)
        self.assertEqual([table.reduced(), one, rival], [Table(2, 1), "a", "b"])
        self.assertEqual(turned(chart, other, family), [])
        self.assertIs(are_alike(chart=chart, other=chart * 2, family=family), True)

    def test_big_counts(self):
        chart, other = Chart({"a": [BIG], "b": [0, BIG + 1]}), Chart({"a": [BIG - 1], "b": [0, BIG]})
        table, one, rival = parting(chart, other, FREE)
        self.assertNotEqual(sign(lead(chart, one, rival, scaled(table))), sign(lead(other, one, rival, scaled(table))))
        self.assertIs(are_alike(chart, 7 * chart, FREE), True)
        self.assertEqual(turned(chart, other, FREE), [("a", "b")])

    def test_one_rider(self):
        self.assertIs(are_alike(Chart({"a": [1]}), Chart({"a": [0, 7]}), FREE), True)
        self.assertIsNone(parting(Chart({"a": [1]}), Chart({"a": [0, 7]}), FREE))
        self.assertEqual(turned(Chart({"a": [1]}), Chart({"a": [0, 7]}), FREE), [])


class IsPartingTest(Case):
    def test_told_ones(self):
        chart, other = told_chart(), other_chart()
        for value, told in [((Table(1), "a", "b"), True), ((Table(1), "b", "a"), True), ((Table(1), "a", "c"), True),
                            ((Table(9, 1), "a", "c"), False), ((Table(1, 1, 1, 1), "c", "d"), False),
                            ((Table(1), "a", "a"), False), ((Table(1, 1), "a", "b"), True)]:
            self.assertIs(is_parting(chart=chart, other=other, family=FREE, value=value), told, value)

    def test_by_points(self):
        for family in some_families():
            told = inside(family)[:12] + [Table(1), Table(5, 4, 3, 2, 1), Table(7, 1)]
            told = [(table, scaled(table), table in family) for table in told]
            for chart, other in pairs(63, 12, 2):
                for (table, scale, is_in), one, rival in product(told, chart.riders(), chart.riders()):
                    parts = sign(lead(chart, one, rival, scale)) != sign(lead(other, one, rival, scale))
                    self.assertIs(is_parting(chart, other, family, (table, one, rival)), parts and is_in)

    def test_spoilt(self):
        chart, other, right = told_chart(), other_chart(), (Table(1), "a", "b")
        self.assertIs(is_parting(chart, other, Family(1), right), True)
        wrong = [(), right[:2], right + ("c",), list(right), {0: Table(1), 1: "a", 2: "b"}, ("a", Table(1), "b"),
                 ("a", "b", Table(1)), (right,), (right, "a", "b"), (Table(2, 1), "a", "b"), (Table(1), "a", "z"),
                 (Table(1), "z", "b"), (Table(1), ["a"], "b"), (Table(1), "a", ["b"]), "abc", Table(1), chart,
                 Family(1)]
        wrong += [(Table(1), value, "b") for value in no_names()] + [(Table(1), "a", value) for value in no_names()]
        wrong += [(value, "a", "b") for value in no_tables()] + no_tables()
        for value in wrong:
            self.assertIs(is_parting(chart, other, Family(1), value), False, repr(value))


class TurningTest(Case):
    def test_against_many_tables(self):
        found = [0, 0]
        for family, told in SCALES:
            for chart, other in pairs(64, 24, 3):
                wanted = []
                for one, rival in product(chart.riders(), chart.riders()):
                    table = turning(chart, other, family, one, rival)
                    if table is None:
                        for scale in told:
                            self.assertFalse(lead(chart, one, rival, scale) > 0 > lead(other, one, rival, scale))
                    else:
                        self.assertIs(type(table), Table)
                        self.assertIn(table, family)
                        scale = scaled(table)
                        self.assertTrue(lead(chart, one, rival, scale) > 0 > lead(other, one, rival, scale))
                        wanted.append((one, rival))
                    found[table is not None] += 1
                self.assertEqual(turned(chart, other, family), wanted)
        self.assertGreater(min(found), 100)

    def test_told_ones(self):
        self.assertEqual(turned(told_chart(), other_chart(), FREE), [("a", "b"), ("b", "a")])
        self.assertEqual(turned(chart=told_chart(), other=other_chart(), family=Family(1)), [("a", "b")])
        self.assertEqual(turning(told_chart(), other_chart(), Family(1), "a", "b").reduced(), Table(1))
        self.assertIsNone(turning(chart=told_chart(), other=other_chart(), family=Family(1), one="b", rival="a"))
        self.assertIsNone(turning(told_chart(), other_chart(), FREE, "a", "a"))

    def test_turned_by_no_corner(self):
        chart, other = Chart({"a": [3], "b": [0, 4]}), Chart({"a": [5], "b": [0, 6]})
        self.assertIsNone(turning(chart, other, FREE, "a", "b"))
        table = turning(chart, other, FREE, "b", "a")
        self.assertTrue(lead(chart, "b", "a", scaled(table)) > 0 > lead(other, "b", "a", scaled(table)))
        self.assertEqual(turned(chart, other, Family.doubling(5)), [])

    def test_other_riders(self):
        chart, other = Chart({"a": [1], "b": [], "d": []}), Chart({"c": [], "b": [1], "a": [], "e": [9]})
        self.assertEqual(turned(chart, other, FREE), [("a", "b")])
        self.assertEqual(turning(chart, other, FREE, "a", "b"), Table(1))
        self.assertEqual(turned(chart, Chart({"z": [1]}), FREE), [])
        self.assertEqual(turned(Chart({"a": [1]}), Chart({"a": [], "b": [1]}), FREE), [])
        for value in ["d", "c", "e", "z"]:
            self.assertFailsAlike(UnknownRider, {"value": value}, turning, chart=chart, other=other, family=FREE,
                                  one=value, rival="d" if value == "c" else "c")
            self.assertFailsAlike(UnknownRider, {"value": value}, turning, chart=chart, other=other, family=FREE,
                                  one="a", rival=value)

    def test_what_a_striking_turns(self):
        season = Season(["a", "b", "c"], [["a", "b"], ["c", "b", "a"], ["c", "b", "a"]])
        full, struck = chart_of(season), chart_of(season.struck("c"))
        self.assertEqual(turned(full, struck, Family(1)), [("a", "b")])
        self.assertEqual(turned(full, struck, Family(2)), [("a", "b")])
        self.assertEqual(turning(full, struck, Family(2, (1, -3)), "a", "b"), Table(1))


class ErrorsTest(Case):
    def test_charts_and_families(self):
        chart, other = told_chart(), other_chart()
        calls = [(are_alike, {}), (parting, {}), (is_parting, {"value": None}), (turned, {}),
                 (turning, {"one": "z", "rival": 3})]
        for call, more in calls:
            for value in no_charts():
                told = {"value": value}
                self.assertFailsAlike(InvalidChart, told, call, chart=value, other=other, family=FREE, **more)
                self.assertFailsAlike(InvalidChart, told, call, chart=value, other=None, family=7, **more)
                self.assertFailsAlike(InvalidChart, told, call, chart=chart, other=value, family=FREE, **more)
                self.assertFailsAlike(InvalidChart, told, call, chart=chart, other=value, family=7, **more)
            for value in no_families():
                self.assertFailsAlike(InvalidFamily, {"value": value}, call, chart=chart, other=other, family=value,
                                      **more)
                self.assertFailsAlike(InvalidFamily, {"value": value}, call, chart=chart, other=Chart({"a": []}),
                                      family=value, **more)

    def test_other_riders(self):
        chart = told_chart()
        for other in [Chart({"a": []}), chart.without("d"), chart.without("d") + chart.without("d"),
                      Chart({**chart.rows(), "e": []}), Chart({"a": [], "b": [], "c": [], "e": []})]:
            for call, more in [(are_alike, {}), (parting, {}), (is_parting, {"value": (Table(1), "a", "b")})]:
                self.assertFailsAlike(OtherRiders, {"one": chart, "other": other}, call, chart=chart, other=other,
                                      family=FREE, **more)
                self.assertFailsAlike(OtherRiders, {"one": other, "other": chart}, call, chart=other, other=chart,
                                      family=FREE, **more)

    def test_riders(self):
        for value in no_names() + ["z", "e"]:
            self.assertFailsAlike(UnknownRider, {"value": value}, turning, chart=told_chart(), other=other_chart(),
                                  family=FREE, one=value, rival="y")
            self.assertFailsAlike(UnknownRider, {"value": value}, turning, chart=told_chart(), other=other_chart(),
                                  family=FREE, one="a", rival=value)


class StayingTest(Case):
    def test_nothing_changes(self):
        chart, other, family = told_chart(), other_chart(), Family(3, (1, -2))
        self.assertNew(lambda: turned(chart, other, FREE))
        self.assertNew(lambda: turned(chart, chart, FREE))
        for call in [lambda: are_alike(chart, 1, family), lambda: parting(chart, chart.without("a"), family),
                     lambda: turning(chart, other, family, "a", "z"), lambda: turned(chart, other, None)]:
            with self.assertRaises((ValueError, LookupError, RuntimeError)):
                call()
        for call in [lambda: are_alike(chart, other, family), lambda: parting(chart, other, family),
                     lambda: turning(chart, other, family, "a", "b"), lambda: turned(chart, other, family)]:
            self.assertEqual(call(), call())
        self.assertEqual([chart, other, family], [told_chart(), other_chart(), Family(3, (1, -2))])


if __name__ == "__main__":
    unittest.main()
