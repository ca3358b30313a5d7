import random
import unittest
from fractions import Fraction
from itertools import combinations, product
from operator import mul

from anypoints.charts import Chart
from anypoints.errors import InvalidChart, InvalidFamily, InvalidPoint, UnknownRider
from anypoints.families import Family
from anypoints.mixes import is_so
from anypoints.planes import Plane
from anypoints.ratios import Ratio
from anypoints.tables import Table
from anypoints.winners import can_be
from tests.helpers import (BIG, Case, drawn_charts, fractions, keeps, no_charts, no_families, no_names, no_numbers,
                           some_families)
from tests.test_mixes import fraction, year_chart
from tests.test_winners import AT_ONE_POINT, BETWEEN_THREE, SPECIAL

THREE = Family(3)
FLAT = [family for family in some_families() if family.paid <= 3]
FLAT += [Family(3, (1, 0, -2)), Family(3, (-1, 1)), Family(3, (-3, 4), (3, -4)), Family(3, (-4, 5, 1), (0, -3, 4)),
         Family(3, (-3, 4), (3, -4), (0, -1, 2), (0, 1, -2)), Family(3, (5, -6), (-1, 4), (0, -1, 9), (0, 5, -6)),
         Family(3, (-1, 2)), Family(3, (-1, 1, 1)), Family(3, (3, -4, 1), (-1, 2, 1), (2, 0, -3)),
         Family(3, (-1, 2), (2, -3, 1), (-1, 1, 1), (8, -5, -5))]


def no_points():
    """Values that are no points of any plane, of many kinds."""
    told = [(), (0,), (0, 0, 0), [0, 0], [Ratio(1, 2), 0], {0: 0, 1: 0}, {0, 1}, "00", b"00", None, True, 0, Ratio(0),
            Table(1), Table(1, 1), THREE, year_chart(), ((0, 0),), ([0], 0), (0, [0]), range(2), iter((0, 0)),
            (Ratio(1, 2), "0"), object()]
    told += [(2, 0), (Ratio(BIG + 1, BIG), 0), (1, 2), (2, 1), (0, 1), (0, Ratio(1, BIG)), (Ratio(1, 3), Ratio(1, 2)),
             (-1, -1), (1, -1), (0, -1), (Ratio(-1, BIG), 0), (1, Ratio(-1, BIG)), (1, 1 + Ratio(1, BIG)),
             (BIG, BIG), (-BIG, -BIG)]
    return told + [(value, 0) for value in no_numbers()] + [(1, value) for value in no_numbers()]


def lines(family, chart=None, rider=None):
    """Triples of INTEGERS: what they add up to with 1, x and y is at least 0 at each point (x, y) of the region."""
    sayings = [tuple(saying[:3]) for saying in family.sayings()]
    rows = [(1, -1, 0), (0, 1, -1), (0, 0, 1)] + sayings
    if family.paid < 3:
        rows.append((0, 0, -1))
    if family.paid < 2:
        rows.append((0, -1, 0))
    if chart is not None:
        rows += [tuple(a - b for a, b in zip(chart[rider], chart[rival]))[:3] for rival in chart.riders()]
    return rows


def crossing(one, other):
    """The point at which both rows add up to 0, or None unless there is just one."""
    bottom = one[1] * other[2] - one[2] * other[1]
    if bottom == 0:
        return None
    return (Fraction(one[2] * other[0] - one[0] * other[2], bottom),
            Fraction(one[0] * other[1] - one[1] * other[0], bottom))


def side(one, other, third):
    return (other[0] - one[0]) * (third[1] - one[1]) - (other[1] - one[1]) * (third[0] - one[0])


def half_around(told):
    """The points, without those that do not lie to the right of the way between two others."""
    found = []
    for point in told:
        while len(found) > 1 and side(found[-2], found[-1], point) <= 0:
            found.pop()
        found.append(point)
    return found[:-1]


def plain_region(rows):
    """The corners of the points at which no row adds up to less than 0, by all crossings of two of them."""
    found = {crossing(one, other) for one, other in combinations(rows, 2)} - {None}
    found = sorted(point for point in found if all(a + b * point[0] + c * point[1] >= 0 for a, b, c in rows))
    if len(found) < 2:
        return found
    return half_around(found) + half_around(found[::-1])


def plain_area(told):
    return abs(sum(side(told[0], one, other) for one, other in zip(told[1:], told[2:]))) / 2


def as_fractions(told):
    return [(fraction(x), fraction(y)) for x, y in told]


def as_ratios(told):
    return [(Ratio(x.numerator, x.denominator), Ratio(y.numerator, y.denominator)) for x, y in told]


def charts():
    return [year_chart(), BETWEEN_THREE, AT_ONE_POINT] + SPECIAL + drawn_charts(121, 12, 3) + drawn_charts(122, 6, 9, 3)


def in_words(told):
    return [str(x) + " " + str(y) for x, y in told]


class PlaneCase(Case):
    def assertRegion(self, found, wanted):
        """Checks that these are the corners, as lists of tuples of two Ratios."""
        self.assertIs(type(found), list)
        for point in found:
            self.assertIs(type(point), tuple)
            self.assertEqual([type(number) for number in point], [Ratio, Ratio])
        self.assertEqual(as_fractions(found), wanted)


class HullTest(PlaneCase):
    def test_by_crossings(self):
        sizes = []
        for family in FLAT:
            hull = Plane(chart=year_chart(), family=family).hull()
            self.assertRegion(hull, plain_region(lines(family)))
            sizes.append(len(hull))
        self.assertTrue({1, 2, 3, 4, 5} <= set(sizes), sizes)

    def test_told_ones(self):
        told = [(Family(1), ["0 0"]), (Family(2), ["0 0", "1 0"]), (THREE, ["0 0", "1 0", "1 1"]),
                (Family(2, (1, -2)), ["0 0", "1/2 0"]), (Family(3, (-1, 1)), ["1 0", "1 1"]),
                (Family(3, (-3, 4), (3, -4)), ["3/4 0", "3/4 3/4"]), (Family.shrinking(3), ["0 0", "1/2 0", "2/3 1/3"]),
                (Family(3, (-1, 1), (0, -1, 1)), ["1 1"]), (Family(2, (1, -1), (-1, 1)), ["1 0"]),
                (Family(3, (1, 0, -2)), ["0 0", "1 0", "1 1/2", "1/2 1/2"]), (Family.doubling(2), ["0 0", "1/2 0"])]
        for family, wanted in told:
            self.assertEqual(in_words(Plane(year_chart(), family).hull()), wanted)

    def test_corner_tables_and_points(self):
        for family in FLAT:
            plane = Plane(year_chart(), family)
            found = {tuple(table.reduced().points()[k].top for k in range(5))
                     for table in [plane.table_at(point) for point in plane.hull()]}
            self.assertEqual(found, {tuple(point.top for point in corner.points()) for corner in family.corners()})


class RegionTest(PlaneCase):
    def test_by_crossings(self):
        sizes = {}
        for family, chart in product(FLAT, charts()):
            plane = Plane(chart, family)
            for rider in chart.riders():
                found = plane.region(rider)
                self.assertRegion(found, plain_region(lines(family, chart, rider)))
                self.assertEqual(plane.region(rider=rider), found)
                self.assertIs(can_be(chart, family, rider, "first"), len(found) > 0)
                sizes[len(found)] = sizes.get(len(found), 0) + 1
        for size in range(5):
            self.assertGreater(sizes[size], 20, sizes)

    def test_counter_clockwise_without_stretches(self):
        for family, chart in product(FLAT, charts()[:12]):
            plane = Plane(chart, family)
            for corners in [as_fractions(plane.region(rider)) for rider in chart.riders()] + [plane.hull()]:
                corners = [(fraction(x), fraction(y)) for x, y in corners]
                if corners:
                    self.assertEqual(corners[0], min(corners))
                self.assertEqual(len(set(corners)), len(corners))
                if len(corners) > 2:
                    for one, other, third in zip(corners, corners[1:] + corners[:1], corners[2:] + corners[:2]):
                        self.assertGreater(side(one, other, third), 0)

    def test_told_ones(self):
        plane = Plane(year_chart(), THREE)
        self.assertEqual(in_words(plane.region("a")), ["0 0", "1/2 0", "1/2 1/2"])
        self.assertEqual(in_words(plane.region("b")), ["1/2 0", "1 0", "1 1", "1/2 1/2"])
        self.assertEqual([plane.region("c"), plane.region("d")], [[], []])
        self.assertEqual(in_words(Plane(year_chart(), Family(2)).region("b")), ["1/2 0", "1 0"])
        self.assertEqual(in_words(Plane(year_chart(), Family.shrinking(2)).region("b")), ["1/2 0"])
        self.assertEqual(Plane(year_chart(), Family(1)).region("b"), [])
        self.assertEqual(in_words(Plane(AT_ONE_POINT, THREE).region("a")), ["2/3 1/3"])
        self.assertEqual(in_words(Plane(BETWEEN_THREE, THREE).region("a")), ["1/2 1/4", "3/4 1/4", "3/4 1/2"])

    def test_equal_rows(self):
        for family in FLAT:
            for row in [[], [1, 2, 3], [BIG, 0, 5]]:
                # Places behind the third one part nobody here.
                plane = Plane(Chart({"a": row, "b": row + [0] * (3 - len(row)) + [7, 7]}), family)
                self.assertEqual([plane.region("a"), plane.region("b")], [plane.hull(), plane.hull()])

    def test_large_numbers(self):
        draw = random.Random(123)
        for family in [THREE, Family(3, (BIG, 1 - BIG)), Family(3, (1 - BIG, BIG), (1, 0, -2))]:
            for _ in range(4):
                chart = Chart({rider: [draw.randint(0, BIG) for _ in range(5)] for rider in "abcdef"})
                for rider in chart.riders():
                    self.assertRegion(Plane(chart, family).region(rider), plain_region(lines(family, chart, rider)))

    def test_unknown_riders(self):
        for family in [THREE, Family(1)]:
            plane = Plane(year_chart(), family)
            for value in no_names() + ["z", "e"]:
                self.assertFailsAlike(UnknownRider, {"value": value}, plane.region, rider=value)
                self.assertFailsAlike(UnknownRider, {"value": value}, plane.share, rider=value)


class ShareTest(PlaneCase):
    def test_by_areas(self):
        found = [0, 0]
        for family, chart in product(FLAT, charts()):
            plane, hull = Plane(chart, family), plain_region(lines(family))
            shares = {rider: plane.share(rider) for rider in chart.riders()}
            if len(hull) < 3:
                self.assertEqual(list(shares.values()), [None] * len(chart))
                found[0] += 1
                continue
            for rider, share in shares.items():
                self.assertIs(type(share), Ratio)
                region = plain_region(lines(family, chart, rider))
                wanted = plain_area(region) / plain_area(hull) if len(region) > 2 else 0
                self.assertEqual(fraction(share), wanted)
                self.assertEqual(plane.share(rider=rider), share)
            rows = [tuple(chart[rider][:3]) for rider in chart.riders()]
            if len(set(rows)) == len(rows):
                self.assertEqual(sum(fractions(shares.values())), 1)
                found[1] += 1
        self.assertGreater(min(found), 50)

    def test_told_ones(self):
        plane = Plane(year_chart(), THREE)
        self.assertEqual([plane.share(rider) for rider in "abcd"], [Ratio(1, 4), Ratio(3, 4), Ratio(0), Ratio(0)])
        self.assertEqual(Plane(AT_ONE_POINT, THREE).share("a"), Ratio(0))
        self.assertEqual(Plane(BETWEEN_THREE, THREE).share("a"), Ratio(1, 16))
        self.assertEqual(Plane(Chart({"a": [], "b": []}), THREE).share("b"), Ratio(1))
        self.assertEqual(Plane(Chart({"a": []}), Family.shrinking(3)).share("a"), Ratio(1))
        for family in [Family(1), Family(2), Family(3, (-1, 1))]:
            self.assertIsNone(Plane(year_chart(), family).share("a"))


class PointTest(PlaneCase):
    def told_points(self, plane, family):
        """Points within, on borders, at corners and outside, as NUMBERS."""
        draw = random.Random(124)
        hull = as_fractions(plane.hull())
        found = list(hull)
        for one, other, third in product(hull, hull, hull):
            if draw.randint(0, 3) == 0:
                a, b, c = [draw.randint(0, 5) for _ in range(3)]
                whole = a + b + c or 1
                point = tuple(Fraction(a * x + b * y + c * z, whole) for x, y, z in zip(one, other, third))
                step = Fraction(draw.randint(-1, 1), draw.choice([7, BIG]))
                found += [point, (point[0] + step, point[1]), (point[0], point[1] - step)]
        return found[:60]

    def test_points(self):
        found = [0, 0]
        for family in FLAT:
            chart = year_chart()
            plane = Plane(chart, family)
            for point in self.told_points(plane, family):
                wanted = keeps(family, [1, *point, 0, 0])
                value, = as_ratios([point])
                self.assertIs(value in plane, wanted)
                found[wanted] += 1
                if not wanted:
                    self.assertFailsAlike(InvalidPoint, {"value": value}, plane.table_at, point=value)
                    self.assertFailsAlike(InvalidPoint, {"value": value}, plane.leaders, point=value)
                    continue
                table = plane.table_at(value)
                self.assertInside(table, family)
                self.assertEqual(fractions(table.points()), [1, *point, 0, 0])
                self.assertEqual(plane.table_at(point=value), table)
        self.assertGreater(min(found), 60)

    def test_told_ones(self):
        plane = Plane(year_chart(), THREE)
        for point in [(0, 0), (1, 0), (1, 1), (Ratio(0), 0), (Ratio(1, 2), 0), (Ratio(1, 2), Ratio(1, 2)),
                      (1, Ratio(1, 2)), (1 - Ratio(1, BIG), Ratio(1, BIG))]:
            self.assertIs(point in plane, True)
            self.assertEqual(plane.table_at(point), Table(1, *point))
        self.assertEqual(plane.table_at((1, 0)), Table(1, 1))
        small = Plane(year_chart(), Family(2, (1, -2)))
        told = [((0, 0), True), ((Ratio(1, 2), 0), True), ((Ratio(1, 2) + Ratio(1, BIG), 0), False), ((1, 0), False),
                ((Ratio(1, 2), Ratio(1, BIG)), False), ((Ratio(1, 4), 0), True)]
        for point, wanted in told:
            self.assertIs(point in small, wanted)

    def test_no_points(self):
        for family in FLAT:
            plane = Plane(year_chart(), family)
            for value in no_points():
                self.assertIs(value in plane, False, repr(value))
                self.assertFailsAlike(InvalidPoint, {"value": value}, plane.table_at, point=value)
                self.assertFailsAlike(InvalidPoint, {"value": value}, plane.leaders, point=value)

    def test_leaders(self):
        found = {}
        for family, chart in product(FLAT, charts()):
            plane = Plane(chart, family)
            corners = [point for rider in chart.riders() for point in plane.region(rider)]
            for point in plane.hull() + corners[:20]:
                leaders = plane.leaders(point)
                scale = [1, *[fraction(number) for number in point]]
                told = {rider: sum(map(mul, chart[rider], scale)) for rider in chart.riders()}
                self.assertEqual(leaders, sorted(rider for rider in told if told[rider] == max(told.values())))
                self.assertEqual(plane.leaders(point=point), leaders)
                self.assertIs(is_so(chart, plane.table_at(point), leaders[0], "first"), True)
                found[len(leaders)] = found.get(len(leaders), 0) + 1
        self.assertGreater(found[1], 100)
        self.assertGreater(found[2], 100)
        self.assertGreater(found[3], 20)
        self.assertEqual(Plane(AT_ONE_POINT, THREE).leaders((Ratio(2, 3), Ratio(1, 3))), list("abcd"))


class ObjectTest(PlaneCase):
    def test_equality(self):
        chart = year_chart()
        plane = Plane(chart, Family(3, (1, -2)))
        like = [Family(3, (1, -2)), Family(3, (2, -4)), Family(3, (1, -2), (1, -2, 0)),
                Family(3, (1, 0), (1, -2, 0, 5)), Family(3, (1, -2, 0, 0, 9), (0, 1, -1))]
        for family in like:
            self.assertIs(plane == Plane(year_chart(), family), True)
            self.assertIs(Plane(Chart(dict(reversed(chart.rows().items()))), family) != plane, False)
        other = [Family(3), Family(2, (1, -2)), Family(1), Family(3, (1, -3)), Family(3, (1, -2), (0, 1, -2))]
        for family in other:
            self.assertIs(plane == Plane(chart, family), False)
            self.assertIs(Plane(chart, family) == plane, False)
        self.assertIs(Plane(chart, Family(1)) == Plane(chart, Family(3, (0, -1), (0, 0, -1))), True)
        rows = chart.rows()
        rows["d"][4] += 1
        self.assertIs(plane == Plane(Chart(rows), Family(3, (1, -2))), False)
        for value in [None, 0, True, "plane", chart, Family(3, (1, -2)), (chart, Family(3, (1, -2))), Plane, object()]:
            self.assertIs(plane == value, False)
            self.assertIs(plane != value, True)

    def test_errors(self):
        for value in no_charts():
            self.assertFailsAlike(InvalidChart, {"value": value}, Plane, chart=value, family=THREE)
            self.assertFails(InvalidChart, {"value": value}, Plane, value, Family(5))
        for value in no_families() + [Family(4), Family(5), Family.doubling(4), Family(5, (0, 0, -1))]:
            self.assertFailsAlike(InvalidFamily, {"value": value}, Plane, chart=year_chart(), family=value)

    def test_nothing_changes(self):
        chart, family = year_chart(), Family(3, (1, 0, -2))
        plane = Plane(chart, family)
        self.assertNew(plane.hull)
        self.assertNew(lambda: plane.region("b"))
        self.assertNew(lambda: plane.region("d"))
        self.assertNew(lambda: plane.leaders((Ratio(1, 2), 0)))
        for call in [lambda: plane.region("z"), lambda: plane.share(3), lambda: plane.table_at((1, 1)),
                     lambda: plane.leaders(None)]:
            with self.assertRaises((ValueError, LookupError)):
                call()
        for call in [plane.hull, lambda: plane.share("a"), lambda: plane.table_at((1, 0)), lambda: (1, 0) in plane]:
            self.assertEqual(call(), call())
        self.assertEqual(plane, Plane(year_chart(), Family(3, (1, 0, -2))))
        self.assertEqual([chart, family], [year_chart(), Family(3, (1, 0, -2))])


if __name__ == "__main__":
    unittest.main()
