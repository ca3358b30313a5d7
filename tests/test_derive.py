import random
import unittest
from fractions import Fraction

from anypoints.derive import derivation_of, is_derivation, is_kept
from anypoints.errors import InvalidFamily, InvalidRow
from anypoints.families import Family
from anypoints.ratios import Ratio
from anypoints.tables import Table
from tests.helpers import BIG, Case, fractions, no_families, no_rows
from tests.test_families import families, plain_corners, tables, worth

SOME = Family(3, (1, -2))


def fraction(number):
    return Fraction(number.top, number.bottom) if isinstance(number, Ratio) else Fraction(number)


def adds_up(family, row, told):
    """Whether the two lists of numbers add up to the row, as the document says it."""
    many, steps = [[fraction(number) for number in part] for part in told]
    for p in range(family.paid):
        total = sum(saying[p] * number for saying, number in zip(family.sayings(), many))
        total = total + steps[p] - (steps[p - 1] if p else 0)
        if total != row[p]:
            return False
    return True


def bordering(family, behind):
    """The least number for the place 1 with which a row that goes on so is kept."""
    corners = plain_corners(family.paid, family.sayings())
    return max(-(worth(behind, corner[1:]) // corner[0]) for corner in corners)


def rows(seed, many, size):
    draw = random.Random(seed)
    return [[draw.randint(-size, size) for _ in range(5)] for _ in range(many)]


class KeptTest(Case):
    def test_just_kept_and_just_not(self):
        for at, family in enumerate(families()):
            for row in rows(at, 6, 4) + rows(at, 2, 100):
                least = bordering(family, row[1:])
                for first, kept in [(least, True), (least + 1, True), (least - 1, False), (least - BIG, False)]:
                    told = [first, *row[1:]]
                    self.assertIs(is_kept(family, told), kept)
                    self.assertIs(is_kept(family, tuple(told)), kept)
                    self.assertIs(derivation_of(family, told) is not None, kept)

    def test_what_is_kept_holds_by_each_table(self):
        for family in families():
            inside = [fractions(table.points()) for table in tables() if table in family]
            for row in rows(31, 10, 3):
                if is_kept(family, row):
                    self.assertTrue(all(worth(row, points) >= 0 for points in inside))

    def test_behind_the_paid_places(self):
        for paid in range(1, 5):
            for tail in [[-BIG] * 4, [7, -1, 0, -3], [0, 0, -1, 5]]:
                row = ([1] + [-1] + [0] * 3)[:paid] + tail[:5 - paid]
                self.assertIs(is_kept(Family(paid), row), True)
                self.assertEqual(derivation_of(Family(paid), row)[0], [])
                self.assertIs(is_derivation(Family(paid), row, derivation_of(Family(paid), row)), True)
                self.assertIs(is_kept(Family(paid), [-1] + row[1:]), False)

    def test_sayings_are_kept(self):
        for family in families():
            for saying in family.sayings():
                self.assertIs(is_kept(family, saying), True)
                self.assertIs(is_kept(family, [3 * number for number in saying]), True)

    def test_told_ones(self):
        self.assertIs(is_kept(family=SOME, row=[1, -1, -1, 0, 0]), True)
        self.assertIs(is_kept(SOME, (1, -1, -2, BIG, BIG)), False)
        self.assertIs(is_kept(Family(5), [0, 0, 0, 0, 0]), True)
        self.assertIs(is_kept(Family(5), [0, 0, 0, 0, -1]), False)
        self.assertIs(is_kept(Family(1), [0, -1, -1, -1, -1]), True)

    def test_errors(self):
        for call in [is_kept, derivation_of]:
            for value in no_families():
                self.assertFailsAlike(InvalidFamily, {"value": value}, call, family=value, row=[1, 0, 0, 0, 0])
                self.assertFails(InvalidFamily, {"value": value}, call, value, None)
            for value in no_rows():
                self.assertFailsAlike(InvalidRow, {"value": value}, call, family=SOME, row=value)
        for value in no_families():
            self.assertFailsAlike(InvalidFamily, {"value": value}, is_derivation, family=value, row=[1], value=1)
        for value in no_rows():
            self.assertFailsAlike(InvalidRow, {"value": value}, is_derivation, family=SOME, row=value, value=None)


class DerivationTest(Case):
    def check(self, family, row):
        found = derivation_of(family, row)
        self.assertIs(type(found), tuple)
        self.assertEqual([type(part) for part in found], [list, list])
        self.assertEqual([len(part) for part in found], [len(family.sayings()), family.paid])
        for number in found[0] + found[1]:
            self.assertIs(type(number), Ratio)
            self.assertGreaterEqual(number.sign, 0)
        self.assertTrue(adds_up(family, row, found))
        self.assertIs(is_derivation(family, row, found), True)
        self.assertIs(is_derivation(family=family, row=tuple(row), value=(tuple(found[0]), tuple(found[1]))), True)
        self.assertEqual(derivation_of(family, tuple(row)), found)
        return found

    def test_exactly_what_is_kept_has_one(self):
        found = [0, 0]
        for at, family in enumerate(families()):
            for row in rows(100 + at, 12, 3) + rows(at, 3, BIG):
                kept = all(worth(row, corner) >= 0 for corner in plain_corners(family.paid, family.sayings()))
                self.assertIs(is_kept(family, row), kept)
                found[kept] += 1
                if kept:
                    self.check(family, row)
                else:
                    self.assertIsNone(derivation_of(family, row))
        self.assertGreater(min(found), 200)

    def test_built_rows(self):
        draw = random.Random(33)
        for family in families():
            for size in [1, 4, 10 ** 20]:
                told = [[draw.choice([0, draw.randint(0, size)]) for _ in part]
                        for part in (family.sayings(), range(family.paid))]
                row = [sum(s[p] * n for s, n in zip(family.sayings(), told[0])) + told[1][p] - ([0] + told[1])[p]
                       for p in range(family.paid)]
                row = row + [draw.randint(-size, size) for _ in range(5 - family.paid)]
                self.assertIs(is_derivation(family, row, tuple(told)), True)
                self.check(family, row)

    def test_sayings_told_twice_and_on_nothing(self):
        twice = Family(3, (1, -2), (1, -2), (2, -4))
        found = self.check(twice, [1, -2, 0, 0, 0])
        self.assertEqual(fraction(found[0][0]) + fraction(found[0][1]) + 2 * fraction(found[0][2]), 1)
        self.assertTrue(is_derivation(twice, [1, -2, 0, 5, 5], ([Ratio(1, 2), Ratio(1, 2), 0], [0, 0, 0])))
        self.assertTrue(is_derivation(twice, [1, -2, 0, 5, 5], ([0, 0, Ratio(1, 2)], [0, 0, 0])))
        nothing = Family(2, (0, 0, 1), (0, 0, -1, 2))
        self.check(nothing, [1, -1, -9, -9, -9])
        self.assertTrue(is_derivation(nothing, [1, -1, -9, 0, 0], ([BIG, Ratio(1, 3)], [1, 0])))
        self.assertIsNone(derivation_of(nothing, [1, -2, 9, 9, 9]))

    def test_without_sayings(self):
        self.assertEqual(derivation_of(Family(5), [1, 0, 0, -1, 2]),
                         ([], [Ratio(1), Ratio(1), Ratio(1), Ratio(0), Ratio(2)]))
        self.assertEqual(derivation_of(Family(1), [0, -1, 0, 0, 0]), ([], [Ratio(0)]))
        self.assertIsNone(derivation_of(Family(2), [1, -2, 0, 0, 0]))

    def test_told_ones(self):
        self.assertIs(is_derivation(SOME, [1, -1, -1, 0, 0], ([1], [0, 1, 0])), True)
        self.assertIs(is_derivation(SOME, [1, -1, -1, -7, 7], ([Ratio(1)], [0, Ratio(1), Ratio(0)])), True)
        self.assertIsNone(derivation_of(family=SOME, row=[1, -1, -2, 0, 0]))

    def test_spoilt(self):
        row, right = [1, -1, -1, 0, 0], ([1], [0, 1, 0])
        wrong = [([2], [0, 1, 0]), ([0], [0, 1, 0]), ([1], [1, 1, 0]), ([1], [0, 1, Ratio(1, 2)]), ([1], [0, 0, 0]),
                 ([Ratio(1, 2)], [0, 1, 0]), ([1], [0, 1, 1]), ([], [0, 1, 0]), ([1, 0], [0, 1, 0]), ([1], [0, 1]),
                 ([1], [0, 1, 0, 0]), ([1], []), ([0, 1, 0], [1]), ([1],), ([1], [0, 1, 0], []), (),
                 ([1], [0, 1, 0], 0), ([True], [0, 1, 0]), ([1], [False, 1, 0]), ([1], [0, True, 0]),
                 (["1"], [0, 1, 0]), ([None], [0, 1, 0]),
                 ([[1]], [0, 1, 0]), ([1], [0, 1, None]), ([1], [0, "1", 0]), ([1], (0, (1,), 0)), ([1], [0, 1, b"0"]),
                 ({0: 1}, [0, 1, 0]), ({1}, [0, 1, 0]), ("1", [0, 1, 0]), ([1], "010"), ([1], {0: 0, 1: 1, 2: 0}),
                 ([1], range(3)), (1, [0, 1, 0]), ([1], None), (None, None), [[1], [0, 1, 0]], [([1], [0, 1, 0])],
                 {0: [1], 1: [0, 1, 0]}, None, True, False, 0, 1, "", "x", Ratio(1), Table(1), SOME, object()]
        self.assertIs(is_derivation(SOME, row, right), True)
        for value in wrong:
            self.assertIs(is_derivation(SOME, row, value), False, repr(value))
        self.assertIs(is_derivation(SOME, [1, -1, 0, 0, 0], right), False)
        self.assertIs(is_derivation(Family(3, (1, -3)), row, right), False)
        self.assertIs(is_derivation(Family(2, (1, -2)), row, right), False)

    def test_below_0_although_it_adds_up(self):
        twice = Family(2, (1, -2), (2, -4), (1, -1))
        for told in [([3, -1, 0], [0, 0]), ([-1, 1, 0], [0, 0]), ([1, -1, 2], [0, -2]),
                     ([1, Ratio(-1, 2), 1], [0, -1]), ([0, 0, 1], [0, -1])]:
            self.assertTrue(adds_up(twice, [1, -2, 0, 0, 0], told))
            self.assertIs(is_derivation(twice, [1, -2, 0, 0, 0], told), False)
        self.assertTrue(adds_up(Family(2), [1, -2, 0, 0, 0], ([], [1, -1])))
        self.assertIs(is_derivation(Family(2), [1, -2, 0, 0, 0], ([], [1, -1])), False)

    def test_spoilt_in_one_number(self):
        for at, family in enumerate(families()):
            for row in rows(200 + at, 4, 4):
                row[0] = bordering(family, row[1:]) + 1
                right = derivation_of(family, row)
                for part in range(2):
                    for k in range(len(right[part])):
                        for change in [1, -1, Ratio(1, 7)]:
                            told = (list(right[0]), list(right[1]))
                            told[part][k] = told[part][k] + change
                            fine = told[part][k].sign >= 0 and adds_up(family, row, told)
                            self.assertIs(is_derivation(family, row, told), fine)

    def test_returned_lists_are_new(self):
        for family in [SOME, Family(5), Family(2, (0, 0, 1))]:
            self.assertNew(lambda: derivation_of(family, [3, 0, 1, 0, 0]))

    def test_arguments_stay(self):
        row, told, family = [1, -1, -1, 0, 0], ([1], [0, 1, 0]), Family(3, (1, -2))
        derivation_of(family, row)
        is_derivation(family, row, told)
        is_kept(family, row)
        self.assertEqual([row, told, family], [[1, -1, -1, 0, 0], ([1], [0, 1, 0]), SOME])


if __name__ == "__main__":
    unittest.main()
