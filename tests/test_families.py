import operator
import random
import unittest
from fractions import Fraction
from functools import cache
from itertools import combinations, product
from math import gcd, lcm

from anypoints.errors import (InvalidFamily, InvalidNumber, InvalidSayings, InvalidTable, NoTables,
                              TooMany)
from anypoints.families import Family
from anypoints.ratios import Ratio
from anypoints.tables import Table
from tests.helpers import BIG, Case, fractions, no_families, no_places, no_tables


def worth(row, points):
    return sum(a * b for a, b in zip(row, points))


def bounds(paid, sayings):
    """All rows that must not come below 0, told over the places that may be paid."""
    steps = [[int(p == q) - int(p == q - 1) for q in range(paid)] for p in range(paid)]
    return steps + [(list(saying) + [0] * 5)[:paid] for saying in sayings]


def solved(rows, many):
    """The one direction in which all rows are 0, or None if there are none or more."""
    rows = [[Fraction(number) for number in row] for row in rows]
    leads = []
    for column in range(many):
        at = len(leads)
        pivot = next((k for k in range(at, len(rows)) if rows[k][column] != 0), None)
        if pivot is None:
            continue
        rows[at], rows[pivot] = rows[pivot], rows[at]
        rows[at] = [number / rows[at][column] for number in rows[at]]
        for k in range(len(rows)):
            if k != at:
                rows[k] = [a - rows[k][column] * b for a, b in zip(rows[k], rows[at])]
        leads.append(column)
    free = [column for column in range(many) if column not in leads]
    if len(free) != 1:
        return None
    found = [Fraction(0)] * many
    found[free[0]] = Fraction(1)
    for at, column in enumerate(leads):
        found[column] = -rows[at][free[0]]
    return found


def plain_corners(paid, sayings):
    """The corners by all choices of sayings and places that are just kept, as tuples."""
    return found_corners(paid, tuple(sayings))


@cache
def found_corners(paid, sayings):
    rows = bounds(paid, sayings)
    found = set()
    for chosen in combinations(rows, paid - 1):
        way = solved(chosen, paid)
        if way is None:
            continue
        for points in [way, [-number for number in way]]:
            if all(worth(row, points) >= 0 for row in rows):
                whole = lcm(*[number.denominator for number in points])
                points = [int(number * whole) for number in points]
                shared = gcd(*points)
                found.add(tuple([number // shared for number in points] + [0] * (5 - paid)))
    return sorted(found)


def told_corners(family):
    """The corners that the family tells, as tuples of integers."""
    for corner in family.corners():
        assert all(point.bottom == 1 for point in corner.points())
    return [tuple(point.top for point in corner.points()) for corner in family.corners()]


def drawn(seed, many, size):
    """Drawn pairs of a number of places and sayings."""
    draw = random.Random(seed)
    out = []
    while len(out) < many:
        paid = draw.randint(1, 5)
        sayings = []
        for _ in range(draw.randint(0, 4)):
            saying = tuple(draw.randint(-size, size) for _ in range(draw.randint(1, 5)))
            if any(saying):
                sayings.append(saying)
        out.append((paid, sayings))
    return out


SHRINKING = {
    1: [],
    2: [(1, -2, 1, 0, 0)],
    3: [(1, -2, 1, 0, 0), (0, 1, -2, 1, 0)],
    4: [(1, -2, 1, 0, 0), (0, 1, -2, 1, 0), (0, 0, 1, -2, 1)],
    5: [(1, -2, 1, 0, 0), (0, 1, -2, 1, 0), (0, 0, 1, -2, 1), (0, 0, 0, 1, -2)],
}

SPECIAL = [
    (5, []),
    (1, []),
    (3, [(1, -2)]),
    (3, [(1, -2), (1, -2)]),
    (3, [(1, -2), (2, -4), (5, -10, 0, 0, 0)]),
    (3, [(1, -2), (-1, 2)]),
    (5, [(1, -1), (-1, 1)]),
    (5, [(-1, 1), (0, -1, 1), (0, 0, -1, 1), (0, 0, 0, -1, 1)]),
    (5, [(-1, 5), (0, -1)]),
    (5, [(0, -1)]),
    (5, [(0, 0, -1)]),
    (4, [(0, 0, 0, -1), (1, -1, -1)]),
    (2, [(0, 0, -1, -1, -1)]),
    (2, [(0, 0, 1)]),
    (1, [(0, 1)]),
    (1, [(0, 0, 0, 0, -1)]),
    (5, [(1, -2, 1), (-1, 2, -1), (0, 1, -2, 1), (0, -1, 2, -1)]),
    (5, [(1, 1, 1, 1, -4), (-1, 2), (-1, 0, 3), (0, -1, 0, 2)]),
    (5, [(3, -4), (-3, 4), (0, 3, -4), (0, -3, 4)]),
    (5, [(BIG, -BIG + 1), (-BIG, BIG, 1), (0, BIG - 2, -BIG, 7), (BIG, 0, 0, 0, -BIG)]),
    (4, [(-1, 1, 1), (1, -1, -1)]),
    (5, SHRINKING[5]),
    (3, [(1, -1, -1), (-1, 1, 1), (1, -2), (1, -3, 3)]),
]


class MakingTest(Case):
    def test_paid(self):
        for value in no_places():
            self.assertFails(InvalidNumber, {"value": value}, Family, value)
            self.assertFails(InvalidNumber, {"value": value}, Family, value, None, (0,), 3, 4, 5, 6)
            self.assertFails(InvalidNumber, {"value": value}, Family.shrinking, value)
            self.assertFails(InvalidNumber, {"value": value}, Family.doubling, value)
        self.assertEqual([Family(k).paid for k in range(1, 6)], [1, 2, 3, 4, 5])
        self.assertEqual(Family(paid=2).paid, 2)
        with self.assertRaises(AttributeError):
            Family(1).paid = 2

    def test_wrong_sayings(self):
        wrong = [(), (0,), (0, 0, 0, 0, 0), (1, 0, 0, 0, 0, 0), (1, 2, 3, 4, 5, 6), (0,) * 6, (True,), (1, False),
                 (True, -2), (0, None), (1, "2"), (1, Ratio(2)), (Ratio(1),), ((1,),), (1, [2]), [1, -2], [1], [], {},
                 {1: 1}, {1, 2}, "1", "ab", b"a", None, True, False, 0, 1, Ratio(1), Table(1), Family(1), object()]
        for value in wrong:
            self.assertFails(InvalidSayings, {"position": 0}, Family, 3, value)
            self.assertFails(InvalidSayings, {"position": 1}, Family, 3, (1, -2), value, None)
            self.assertFails(InvalidSayings, {"position": 3}, Family, 3, (1,), (1,), (1,), value)
            self.assertFails(InvalidSayings, {"position": 4}, Family, 3, (1,), (1,), (1,), (1,), value)
            self.assertFails(InvalidSayings, {"position": 0}, Family, 3, value, (-1,))

    def test_too_many_sayings(self):
        told = {"what": "sayings", "limit": 4}
        self.assertEqual(Family.MOST_SAYINGS, 4)
        self.assertEqual(Family(5, *[(1,)] * 4).sayings(), [(1, 0, 0, 0, 0)] * 4)
        self.assertFails(TooMany, told, Family, 5, *[(1,)] * 5)
        self.assertFails(TooMany, told, Family, 5, (1, -2), (0, 1, -2), (0, 0, 1, -2), (0, 0, 0, 1, -2), (1, -1))
        self.assertFails(TooMany, told, Family, 5, *[(-1,)] * 5)
        self.assertFails(TooMany, told, Family, 5, *[(1,)] * 9)

    def test_no_tables(self):
        for paid in range(1, 6):
            self.assertFails(NoTables, {}, Family, paid, (-1,))
            self.assertFails(NoTables, {}, Family, paid, (1,), (0, 1), (-1, -1))
            self.assertFails(NoTables, {}, Family, paid, (-1, 1), (1, -2))
            self.assertFails(NoTables, {}, Family, paid, (-BIG, 1, 1, 1, 1))
        self.assertFails(NoTables, {}, Family, 1, (-1, 1))
        self.assertFails(NoTables, {}, Family, 2, (-1, 0, 1))
        self.assertFails(NoTables, {}, Family, 5, (-1, 5), (0, -1), (-1, 0, 1))

    def test_sayings(self):
        family = Family(2, (1, -2), (0, 0, 0, 0, 7), (3, 0, 0), (1, -2))
        self.assertEqual(family.sayings(), [(1, -2, 0, 0, 0), (0, 0, 0, 0, 7), (3, 0, 0, 0, 0), (1, -2, 0, 0, 0)])
        self.assertEqual([type(saying) for saying in family.sayings()], [tuple] * 4)
        self.assertEqual(Family(5).sayings(), [])

    def test_shrinking(self):
        for paid, sayings in SHRINKING.items():
            family = Family.shrinking(paid=paid)
            self.assertEqual([family.paid, family.sayings()], [paid, sayings])
        for paid, steps in product(range(1, 6), product(range(3), repeat=5)):
            if any(steps):
                least = all(steps[p] >= steps[p + 1] for p in range(4)) and not any(steps[paid:])
                self.assertIs(Table.of_steps(*steps) in Family.shrinking(paid), least)

    def test_doubling(self):
        told = [(1, -2, 0, 0, 0), (0, 1, -2, 0, 0), (0, 0, 1, -2, 0), (0, 0, 0, 1, -2)]
        for paid in range(1, 6):
            family = Family.doubling(paid=paid)
            self.assertEqual([family.paid, family.sayings()], [paid, told[:paid - 1]])
        self.assertEqual(told_corners(Family.doubling(5))[-1], (16, 8, 4, 2, 1))
        self.assertIn(Table(4, 2, 1), Family.doubling(3))
        self.assertNotIn(Table(4, 2, 2), Family.doubling(3))
        self.assertNotIn(Table(4, 2, 1), Family.doubling(2))


class CornersTest(Case):
    def test_without_sayings(self):
        for paid in range(1, 6):
            self.assertEqual(Family(paid).corners(), [Table.first_places(k) for k in range(1, paid + 1)])

    def test_told_ones(self):
        self.assertEqual(told_corners(Family(3, (1, -2))), [(1, 0, 0, 0, 0), (2, 1, 0, 0, 0), (2, 1, 1, 0, 0)])
        self.assertEqual(told_corners(Family(5, (0, -1))), [(1, 0, 0, 0, 0)])
        self.assertEqual(told_corners(Family(2, (-1, 1))), [(1, 1, 0, 0, 0)])
        self.assertEqual(told_corners(Family(2, (2, -3), (-2, 3))), [(3, 2, 0, 0, 0)])
        self.assertEqual(told_corners(Family(5, (0, 0, -1))), [(1, 0, 0, 0, 0), (1, 1, 0, 0, 0)])
        self.assertEqual(told_corners(Family(2, (0, 0, -1))), [(1, 0, 0, 0, 0), (1, 1, 0, 0, 0)])

    def test_by_all_choices(self):
        none = 0
        for paid, sayings in SPECIAL + drawn(1, 300, 3) + drawn(2, 200, 40) + drawn(3, 150, 1):
            wanted = plain_corners(paid, sayings)
            if not wanted:
                none = none + 1
                self.assertFails(NoTables, {}, Family, paid, *sayings)
                continue
            self.assertEqual(told_corners(Family(paid, *sayings)), wanted, (paid, sayings))
        self.assertGreater(none, 20)

    def test_each_is_in_the_family_and_reduced(self):
        for family in families():
            for corner in family.corners():
                self.assertIn(corner, family)
                self.assertEqual(corner, corner.reduced())

    def test_told_twice_or_multiplied(self):
        some = Family(4, (1, -2), (0, 1, -1, -1))
        for other in [Family(4, (1, -2), (1, -2), (0, 1, -1, -1)), Family(4, (0, 7, -7, -7), (3, -6)),
                      Family(4, (1, -2), (0, 1, -1, -1), (1, -1, -1, -1))]:
            self.assertEqual(other.corners(), some.corners())


@cache
def families():
    """Families of many kinds, each with at least one table."""
    told = SPECIAL + drawn(4, 80, 3)
    return [Family(paid, *sayings) for paid, sayings in told if plain_corners(paid, sayings)]


@cache
def tables():
    """Tables of many kinds."""
    draw = random.Random(5)
    out = [Table.first_places(k) for k in range(1, 6)] + [Table.steep(s, k) for s in [2, 3] for k in range(1, 6)]
    out += [Table(25, 18, 15, 12, 10), Table(Ratio(3, 2), Ratio(1, 2)), Table(BIG, BIG - 1, 1)]
    while len(out) < 60:
        steps = [Ratio(draw.randint(0, 4), draw.randint(1, 3)) for _ in range(draw.randint(1, 5))]
        if any(step.sign for step in steps):
            out.append(Table.of_steps(*steps))
    return out


class InTest(Case):
    def test_in(self):
        found = [0, 0]
        for family, table in product(families(), tables()):
            points = fractions(table.points())
            is_in = not any(points[family.paid:]) and all(worth(row, points) >= 0 for row in family.sayings())
            self.assertIs(table in family, is_in)
            self.assertIs(table * Ratio(3, 7) in family, is_in)
            found[is_in] += 1
        self.assertGreater(min(found), 200)

    def test_in_for_any_value(self):
        for value in no_tables() + [[], {}, (), object(), "", Table.first_places]:
            self.assertIs(value in Family(5), False)

    def test_sums_of_corners_are_in(self):
        draw = random.Random(6)
        for family in families():
            corners = family.corners()
            for _ in range(5):
                added = draw.choice(corners)
                for corner in corners:
                    added = added + corner * Ratio(draw.randint(1, 5), draw.randint(1, 5))
                self.assertIn(added, family)


class AndTest(Case):
    def test_and(self):
        one, other = Family(4, (1, -2), (0, 1)), Family(3, (0, 1, -2), (1,))
        found = one & other
        self.assertEqual(found.paid, 3)
        self.assertEqual(found.sayings(), [*one.sayings(), *other.sayings()])
        self.assertEqual((other & one).sayings(), [*other.sayings(), *one.sayings()])
        self.assertEqual((other & one).paid, 3)
        self.assertEqual(Family(2) & Family(5), Family(2))
        self.assertEqual([one, other], [Family(4, (1, -2), (0, 1)), Family(3, (0, 1, -2), (1,))])

    def test_and_keeps_both(self):
        for one, other in product(families()[:12], families()[:12]):
            if len(one.sayings()) + len(other.sayings()) > 4:
                self.assertFails(TooMany, {"what": "sayings", "limit": 4}, operator.and_, one, other)
                continue
            shared = [table for table in tables() if table in one and table in other]
            if not plain_corners(min(one.paid, other.paid), one.sayings() + other.sayings()):
                self.assertFails(NoTables, {}, operator.and_, one, other)
                self.assertEqual(shared, [])
                continue
            found = one & other
            self.assertEqual([table for table in tables() if table in found], shared)

    def test_errors(self):
        for value in no_families():
            self.assertFails(InvalidFamily, {"value": value}, operator.and_, Family(3, (1, -2)), value)
        three = Family(3, (1,), (1,), (1,))
        self.assertFails(TooMany, {"what": "sayings", "limit": 4}, operator.and_, three, three)
        self.assertEqual(len((three & Family(3, (1,))).sayings()), 4)
        self.assertFails(NoTables, {}, operator.and_, Family(5, (1, -2)), Family(5, (-1, 1)))
        self.assertFails(NoTables, {}, operator.and_, Family(1), Family(5, (-1, 1)))
        twice = Family(5, (-1, 1), (-1, 1))
        self.assertFails(TooMany, {"what": "sayings", "limit": 4}, operator.and_, twice, Family(5, *[(1, -2)] * 3))
        self.assertEqual(three, Family(3, (1,), (1,), (1,)))


class PartsTest(Case):
    def check_parts(self, family, table):
        found = family.parts(table)
        corners = family.corners()
        self.assertIs(type(found), list)
        self.assertEqual(len(found), len(corners))
        added = [Fraction(0)] * 5
        for times, corner in zip(found, corners):
            self.assertIs(type(times), Ratio)
            self.assertGreaterEqual(times.sign, 0)
            points = fractions(corner.points())
            added = [a + Fraction(times.top, times.bottom) * b for a, b in zip(added, points)]
        self.assertEqual(added, fractions(table.points()))
        self.assertEqual(family.parts(table), found)

    def test_parts_of_tables(self):
        for family, table in product(families(), tables()):
            if table in family:
                self.check_parts(family, table)
            else:
                self.assertFails(InvalidTable, {"value": table}, family.parts, table)

    def test_parts_of_sums_of_corners(self):
        draw = random.Random(8)
        for family in families():
            for _ in range(6):
                corners = [corner for corner in family.corners() if draw.randint(0, 2)]
                if corners:
                    table = corners[0]
                    for corner in corners:
                        table = table + corner * Ratio(draw.randint(1, 6), draw.randint(1, 6))
                    self.check_parts(family, table)
            for corner in family.corners():
                self.check_parts(family, corner * Ratio(2, 3))

    def test_one_choice(self):
        self.assertEqual(Family(3, (1, -2)).parts(table=Table(6, 3, Ratio(1, 2))), [Ratio(0), Ratio(5, 2), Ratio(1, 2)])
        self.assertEqual(Family(5).parts(Table(5, 4, 3, 2, 1)), [Ratio(1)] * 5)
        self.assertEqual(Family(1).parts(Table(7)), [Ratio(7)])

    def test_errors(self):
        for value in no_tables():
            self.assertFails(InvalidTable, {"value": value}, Family(5).parts, value)
        self.assertFails(InvalidTable, {"value": Table(3, 2)}, Family(3, (1, -2)).parts, Table(3, 2))
        self.assertFails(InvalidTable, {"value": Table(3, 1, 1)}, Family(2).parts, Table(3, 1, 1))


class WithinTest(Case):
    def test_by_corners(self):
        found = [0, 0]
        some = families()[:45]
        for one, other in product(some, some):
            within = all(corner in other for corner in one.corners())
            self.assertIs(one.is_within(other), within)
            self.assertIs(one.is_same(other), within and all(corner in one for corner in other.corners()))
            beyond = one.beyond(other)
            if within:
                self.assertIs(beyond, None)
            else:
                self.assertIs(type(beyond), Table)
                self.assertIn(beyond, one)
                self.assertNotIn(beyond, other)
            self.assertEqual(one.beyond(other), beyond)
            found[within] += 1
        self.assertGreater(min(found), 100)

    def test_no_table_is_in_one_only(self):
        for one, other in product(families()[:45], families()[:45]):
            if one.is_within(other):
                for table in tables():
                    self.assertFalse(table in one and table not in other)

    def test_told_ones(self):
        self.assertTrue(Family(2).is_within(other=Family(3)))
        self.assertFalse(Family(3).is_within(Family(2)))
        self.assertTrue(Family.doubling(3).is_within(Family(3, (1, -2))))
        self.assertIsNone(Family.doubling(3).beyond(other=Family(3)))
        self.assertTrue(Family(3, (1, -2)).is_same(other=Family(3, (2, -4), (1, -2), (1,))))
        self.assertTrue(Family(5, (0, 0, -1)).is_same(Family(2)))
        self.assertTrue(Family(5, (0, -1)).is_same(Family(1)))
        self.assertFalse(Family(2).is_same(Family(3)))
        self.assertFalse(Family(3).is_same(Family(2)))

    def test_errors(self):
        some = Family(3, (1, -2))
        for value in no_families():
            for call in [some.is_within, some.beyond, some.is_same]:
                self.assertFails(InvalidFamily, {"value": value}, call, value)


class FormTest(Case):
    def test_equal(self):
        self.assertTrue(Family(3, (1, -2)) == Family(3, (1, -2, 0, 0, 0)))
        self.assertTrue(Family(3) == Family(3))
        self.assertTrue(Family(3) != Family(2))
        self.assertFalse(Family(3, (1, -2)) == Family(3))
        self.assertFalse(Family(3, (1, -2)) == Family(3, (2, -4)))
        self.assertFalse(Family(3, (1, -2)) == Family(3, (1, -2), (1, -2)))
        self.assertFalse(Family(3, (1, -2), (1,)) == Family(3, (1,), (1, -2)))
        self.assertFalse(Family(5, (0, -1)) == Family(1))
        for value in [None, 3, (3,), [3], "Family(3)", Table(1), Ratio(3), Family]:
            self.assertFalse(Family(3) == value)
            self.assertFalse(value == Family(3))
            self.assertTrue(Family(3) != value)

    def test_repr(self):
        self.assertEqual(repr(Family(3, (1, -2))), "Family(3, (1, -2, 0, 0, 0))")
        self.assertEqual(repr(Family(5)), "Family(5)")
        self.assertEqual(repr(Family.doubling(3)), "Family(3, (1, -2, 0, 0, 0), (0, 1, -2, 0, 0))")
        for family in families():
            self.assertEqual(eval(repr(family)), family)

    def test_returned_lists_are_new(self):
        family = Family(3, (1, -2))
        for call in [family.sayings, family.corners, lambda: family.parts(Table(2, 1))]:
            before = call()
            changed = call()
            changed.clear()
            changed.append("x")
            self.assertEqual(call(), before)
            self.assertIsNot(call(), call())
        self.assertEqual(family, Family(3, (1, -2)))
        self.assertIn(Table(2, 1), family)

    def test_nothing_changes(self):
        family, other, table = Family(3, (1, -2)), Family(5, *[(1,)] * 4), Table(3, 2)
        for call in [lambda: family & other, lambda: family & 3, lambda: family.parts(table),
                     lambda: family.beyond(None), lambda: family.is_within([]), lambda: family.is_same("")]:
            with self.assertRaises((ValueError, ArithmeticError)):
                call()
        family.is_same(other)
        self.assertEqual(repr([family, other]), repr([Family(3, (1, -2)), Family(5, *[(1,)] * 4)]))
        self.assertEqual(family.corners(), Family(3, (1, -2)).corners())
        self.assertEqual(table, Table(3, 2))


if __name__ == "__main__":
    unittest.main()
