import random
import unittest
from fractions import Fraction
from itertools import product
from operator import mul

from anypoints.charts import Chart, chart_of
from anypoints.errors import InvalidChart, InvalidEnd, InvalidFamily, InvalidTable, UnknownRider
from anypoints.families import Family
from anypoints.mixes import ENDS, bars, is_mix, is_so, mixed_points
from anypoints.ratios import Ratio
from anypoints.tables import Table
from tests.helpers import (BIG, Case, drawn_charts, fractions, inside, no_charts, no_families, no_keys, no_names,
                           no_numbers, no_tables, points, some_families)
from tests.test_families import plain_corners
from tests.test_seasons import year

FREE = Family(5)
TABLES = [Table(1), Table(1, 1), Table(3, 2, 1), Table(25, 18, 15, 12, 10), Table(Ratio(3, 2), Ratio(1, 2)),
          Table(1, 1, 1, 1, 1), Table(BIG, 1)]


def year_chart():
    return chart_of(year())


def no_ends():
    return [None, True, False, 0, 1, "", "First", "first ", "firsts", "alone", "first  alone", "lastalone", b"first",
            ["first"], ("first",), ENDS, {"first": 1}, {"last"}, Ratio(1), Table(1), object()]


def fraction(number):
    return Fraction(number.top, number.bottom) if isinstance(number, Ratio) else Fraction(number)


def comes_to(own, others, end):
    """Whether the points bring their rider to the end, as the document says it."""
    if end == "first":
        return not any(other > own for other in others)
    if end == "first alone":
        return all(other < own for other in others)
    if end == "last":
        return not any(other < own for other in others)
    return all(other > own for other in others)


def barred(own, mixed, end):
    """Whether the points of a mix bar those of a rider from the end, as the document says it."""
    if end == "first":
        return mixed > own
    if end == "first alone":
        return mixed >= own
    if end == "last":
        return mixed < own
    return mixed <= own


def mixes(chart, rider):
    """Mixes of the rider's rivals, of many kinds."""
    draw = random.Random(71)
    rivals = [other for other in chart.riders() if other != rider]
    found = [{rival: one} for rival in rivals for one in [1, Ratio(1)]]
    for _ in range(4 if len(rivals) > 1 else 0):
        some = draw.sample(rivals, draw.randint(2, len(rivals)))
        parts = [draw.randint(1, 5) for _ in some]
        found.append({rival: Ratio(part, sum(parts)) for rival, part in zip(some, parts)})
    return found


class EndsTest(Case):
    def test_ends(self):
        self.assertEqual(ENDS, ("first", "first alone", "last", "last alone"))
        self.assertIs(type(ENDS), tuple)

    def test_told_ones(self):
        told = [(Table(3, 2, 1), "b", [True, True, False, False]), (Table(3, 2, 1), "a", [False] * 4),
                (Table(3, 2, 1), "d", [False, False, True, True]), 
                (Table(1, 1, 1, 1), "a", [True, False, False, False]),
                (Table(1, 1, 1, 1), "d", [False, False, True, False]), (Table(1), "c", [False, False, True, False])]
        for table, rider, wanted in told:
            self.assertEqual([is_so(year_chart(), table, rider, end) for end in ENDS], wanted)
            self.assertEqual([is_so(chart=year_chart(), table=table, rider=rider, end=end) for end in ENDS], wanted)

    def test_by_points(self):
        for chart, table in product([year_chart()] + drawn_charts(72, 60, 2), TABLES):
            for rider, end in product(chart.riders(), ENDS):
                own = points(chart, table, rider)
                others = [points(chart, table, other) for other in chart.riders() if other != rider]
                self.assertIs(is_so(chart, table, rider, end), comes_to(own, others, end))

    def test_one_rider(self):
        for row, table in product([[], [1], [0, BIG]], TABLES):
            self.assertEqual([is_so(Chart({"a": row}), table, "a", end) for end in ENDS], [True] * 4)

    def test_all_level(self):
        for many in range(2, 7):
            chart = Chart({rider: [1, 2, 3] for rider in "abcdef"[:many]})
            self.assertEqual([is_so(chart, Table(5, 1), "b", end) for end in ENDS], [True, False, True, False])

    def test_errors(self):
        chart, table = year_chart(), Table(3, 2)
        for value in no_charts():
            self.assertFailsAlike(InvalidChart, {"value": value}, is_so, chart=value, table=table, rider="a",
                                  end="last")
            self.assertFails(InvalidChart, {"value": value}, is_so, value, None, None, None)
        for value in no_tables():
            self.assertFailsAlike(InvalidTable, {"value": value}, is_so, chart=chart, table=value, rider="a",
                                  end="last")
            self.assertFails(InvalidTable, {"value": value}, is_so, chart, value, "z", "z")
        for value in no_names() + ["z", "e"]:
            self.assertFailsAlike(UnknownRider, {"value": value}, is_so, chart=chart, table=table, rider=value,
                                  end="last")
            self.assertFails(UnknownRider, {"value": value}, is_so, chart, table, value, "end")
        for value in no_ends():
            self.assertFailsAlike(InvalidEnd, {"value": value}, is_so, chart=chart, table=table, rider="a", end=value)


class MixTest(Case):
    def test_mixes(self):
        for chart in [year_chart()] + drawn_charts(73, 15, 2, 2):
            for rider in chart.riders():
                for mix in mixes(chart, rider):
                    self.assertIs(is_mix(chart, rider, mix), True)
                    self.assertIs(is_mix(chart=chart, rider=rider, value=dict(reversed(mix.items()))), True)

    def test_no_mixes(self):
        half, big = Ratio(1, 2), Ratio(1, BIG)
        wrong = [{}, {"b": half}, {"b": 2}, {"b": half, "c": half, "d": half}, {"b": Ratio(1, 3), "c": Ratio(1, 3)},
                 {"b": half, "c": half + big}, {"b": half, "c": half - big}, {"b": 1, "c": big}, {"b": 1 - big},
                 {"b": 0}, {"b": 1, "c": 0}, {"b": 1, "c": Ratio(0)}, {"b": 2, "c": -1}, {"b": Ratio(3, 2), "c": -half},
                 {"b": -1}, {"a": 1}, {"a": half, "b": half}, {"b": half, "a": half, "c": 0}, {"z": 1},
                 {"b": half, "z": half}, {"b": True}, {"b": half, "c": half, "d": False}, {"b": 1, "d": False},
                 {"b": half, "c": None}, {"b": 1, "c": "0"}, {"b": [1]}, {"b": (half,), "c": half}, {"b": {"c": 1}},
                 [("b", 1)], [["b", 1]], ["b"], ("b",), {"b"}, "b", 1, True, None, half, Table(1), FREE, year_chart(),
                 object()]
        wrong += [{value: 1} for value in no_keys()] + [{"b": half, value: half} for value in no_keys()]
        wrong += [{"b": value} for value in no_numbers()]
        for value in wrong:
            self.assertIs(is_mix(year_chart(), "a", value), False, repr(value))
            for end in ENDS:
                self.assertIs(bars(year_chart(), FREE, "a", end, value), False)

    def test_one_rider(self):
        for value in [{}, {"a": 1}, {"b": 1}, None]:
            self.assertIs(is_mix(Chart({"a": [1]}), "a", value), False)
            self.assertEqual([bars(Chart({"a": [1]}), FREE, "a", end, value) for end in ENDS], [False] * 4)

    def test_six_riders(self):
        chart = Chart({rider: [k] for k, rider in enumerate("abcdef")})
        self.assertIs(is_mix(chart, "a", {rider: Ratio(1, 5) for rider in "bcdef"}), True)
        self.assertIs(is_mix(chart, "a", {rider: Ratio(1, 6) for rider in "abcdef"}), False)

    def test_points(self):
        self.assertEqual(mixed_points(year_chart(), Table(3, 2, 1), {"b": Ratio(1, 2), "c": Ratio(1, 2)}), Ratio(9, 2))
        self.assertEqual(mixed_points(chart=year_chart(), table=Table(1), mix={"a": 1}), Ratio(2))
        for chart, table in product([year_chart()] + drawn_charts(74, 15, 2, 2), TABLES):
            for rider in chart.riders():
                for mix in mixes(chart, rider):
                    found = mixed_points(chart, table, mix)
                    self.assertIs(type(found), Ratio)
                    wanted = sum(points(chart, table, rival) * fraction(part) for rival, part in mix.items())
                    self.assertEqual(fractions([found]), [wanted])
                    self.assertEqual(mixed_points(chart, table, dict(reversed(mix.items()))), found)

    def test_errors(self):
        chart = year_chart()
        for value in no_charts():
            self.assertFailsAlike(InvalidChart, {"value": value}, is_mix, chart=value, rider="a", value=None)
            self.assertFailsAlike(InvalidChart, {"value": value}, mixed_points, chart=value, table=Table(1),
                                  mix={"a": 1})
            self.assertFails(InvalidChart, {"value": value}, mixed_points, value, None, {"a": 1})
        for value in no_tables():
            self.assertFailsAlike(InvalidTable, {"value": value}, mixed_points, chart=chart, table=value, mix={"a": 1})
        for value in no_names() + ["z", "e"]:
            self.assertFailsAlike(UnknownRider, {"value": value}, is_mix, chart=chart, rider=value, value={"b": 1})


class BarsTest(Case):
    def test_at_the_corners(self):
        found = {}
        for family in some_families():
            corners = plain_corners(family.paid, family.sayings())
            for chart in [year_chart()] + drawn_charts(75, 8, 2, 2):
                told = {rider: [sum(map(mul, chart[rider], corner)) for corner in corners] for rider in chart.riders()}
                for rider in chart.riders():
                    for mix in mixes(chart, rider):
                        mixed = [sum(told[rival][k] * fraction(part) for rival, part in mix.items())
                                 for k in range(len(corners))]
                        for end in ENDS:
                            wanted = all(barred(own, other, end) for own, other in zip(told[rider], mixed))
                            self.assertIs(bars(chart, family, rider, end, mix), wanted)
                            found[end, wanted] = found.get((end, wanted), 0) + 1
        self.assertEqual(len(found), 8)
        self.assertGreater(min(found.values()), 100)

    def test_what_is_barred_comes_by_no_table(self):
        for family in some_families():
            told = inside(family)[:30]
            for chart in drawn_charts(76, 6, 2, 2):
                for rider, end in product(chart.riders(), ENDS):
                    if any(bars(chart, family, rider, end, mix) for mix in mixes(chart, rider)):
                        self.assertFalse(any(is_so(chart, table, rider, end) for table in told))

    def test_all_corners_but_one(self):
        mix = {"b": Ratio(1, 2), "c": Ratio(1, 2)}
        rows = {"b": [4, 4, 4, 4, 4], "c": [2, 2, 2, 2, 2]}
        # By the first-k table the mix has 3 k; the rider is to have the same at the k told, and less elsewhere.
        for k in range(1, 6):
            firsts = [3 * place - (place != k) for place in range(1, 6)]
            row = [firsts[0]] + [firsts[place] - firsts[place - 1] for place in range(1, 5)]
            chart = Chart({**rows, "a": row})
            self.assertEqual([bars(chart, FREE, "a", end, mix) for end in ENDS], [False, True, False, False])
            less = [n - (place == 0) for place, n in enumerate(row)]
            self.assertEqual([bars(Chart({**rows, "a": less}), FREE, "a", end, mix) for end in ENDS],
                             [True, True, False, False])
            firsts[k - 1] += 1
            ahead = [firsts[0]] + [firsts[place] - firsts[place - 1] for place in range(1, 5)]
            self.assertEqual([bars(Chart({**rows, "a": ahead}), FREE, "a", end, mix) for end in ENDS], [False] * 4)
            firsts = [3 * place + (place != k) for place in range(1, 6)]
            row = [firsts[0]] + [firsts[place] - firsts[place - 1] for place in range(1, 5)]
            chart = Chart({**rows, "a": row})
            self.assertEqual([bars(chart, FREE, "a", end, mix) for end in ENDS], [False, False, False, True])
            more = [n + (place == 0) for place, n in enumerate(row)]
            self.assertEqual([bars(Chart({**rows, "a": more}), FREE, "a", end, mix) for end in ENDS],
                             [False, False, True, True])

    def test_level_at_all_corners(self):
        chart = Chart({"a": [2, 2], "b": [1, 3], "c": [3, 1]})
        mix = {"b": Ratio(1, 2), "c": Ratio(1, 2)}
        self.assertEqual([bars(chart, FREE, "a", end, mix) for end in ENDS], [False, True, False, True])
        self.assertEqual([bars(chart=chart, family=FREE, rider="a", end=end, value={"c": 1}) for end in ENDS],
                         [False, True, False, False])

    def test_by_family(self):
        chart = Chart({"a": [1, 0, 3], "b": [0, 3], "c": [2]})
        mix = {"b": Ratio(1, 2), "c": Ratio(1, 2)}
        self.assertIs(bars(chart, FREE, "a", "first", mix), False)
        self.assertIs(bars(chart, Family(2, (-1, 2)), "a", "first", mix), True)
        self.assertIs(bars(chart, Family(1), "a", "first", mix), False)
        self.assertIs(bars(chart, Family(1), "a", "first alone", mix), True)
        self.assertIs(bars(chart, Family(1), "a", "first", {"c": 1}), True)

    def test_errors(self):
        chart, mix = year_chart(), {"b": 1}
        for value in no_charts():
            self.assertFailsAlike(InvalidChart, {"value": value}, bars, chart=value, family=FREE, rider="a", end="last",
                                  value=mix)
            self.assertFails(InvalidChart, {"value": value}, bars, value, None, None, None, None)
        for value in no_families():
            self.assertFailsAlike(InvalidFamily, {"value": value}, bars, chart=chart, family=value, rider="a",
                                  end="last", value=mix)
            self.assertFails(InvalidFamily, {"value": value}, bars, chart, value, "z", "end", mix)
        for value in no_names() + ["z", "e"]:
            self.assertFailsAlike(UnknownRider, {"value": value}, bars, chart=chart, family=FREE, rider=value,
                                  end="last", value=mix)
            self.assertFails(UnknownRider, {"value": value}, bars, chart, FREE, value, "end", mix)
        for value in no_ends():
            self.assertFailsAlike(InvalidEnd, {"value": value}, bars, chart=chart, family=FREE, rider="a", end=value,
                                  value=mix)
            self.assertFails(InvalidEnd, {"value": value}, bars, chart, FREE, "a", value, None)

    def test_nothing_changes(self):
        chart, mix, table = year_chart(), {"c": Ratio(1, 2), "b": Ratio(1, 2)}, Table(3, 1)
        for call in [lambda: is_so(chart, table, "a", "end"), lambda: bars(chart, FREE, "z", "last", mix),
                     lambda: is_mix(chart, None, mix), lambda: mixed_points(chart, 3, mix)]:
            with self.assertRaises((ValueError, LookupError)):
                call()
        for call in [lambda: is_so(chart, table, "a", "last"), lambda: bars(chart, FREE, "a", "last", mix),
                     lambda: is_mix(chart, "a", mix), lambda: mixed_points(chart, table, mix)]:
            self.assertEqual(call(), call())
        self.assertEqual([chart, table], [year_chart(), Table(3, 1)])
        self.assertEqual(list(mix.items()), [("c", Ratio(1, 2)), ("b", Ratio(1, 2))])


if __name__ == "__main__":
    unittest.main()
