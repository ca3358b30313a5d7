import random
import unittest
from fractions import Fraction
from itertools import permutations, product

from anypoints.charts import Chart
from anypoints.errors import InvalidChart, InvalidRiders, InvalidWishes, TooMany
from anypoints.families import Family
from anypoints.ratios import Ratio
from anypoints.seasons import Season
from anypoints.tables import Table
from anypoints.wishes import can_all, fulfils, is_wish_bar, wish_bar, wished_chart
from tests.helpers import BIG, Case, fractions, no_charts, no_names, no_numbers, no_tables, points
from tests.test_mixes import fraction, year_chart

TOO_MANY_WISHES = {"what": "wishes", "limit": 4}
TOO_MANY_RIDERS = {"what": "riders", "limit": 6}
HALF = Ratio(1, 2)


def no_lists():
    """Values that are no lists, of many kinds."""
    return [None, True, False, 0, 1, "", "a", b"a", {}, {"a": 1}, {"a"}, iter([]), range(0), Ratio(1), Table(1),
            Season(["a"]), Chart({"a": []}), object()]


def no_wishes():
    """Values that are no wishes for the riders a, b and c, of many kinds."""
    told = [(), (Table(1),), (Table(1), "a", "b"), [Table(1), "a"], ("a", Table(1)), (Table(1), Table(1)), ("a", "b"),
            {0: Table(1), 1: "a"}, "ab", None, True, 0, Table(1), "a", ((Table(1), "a"),), (Table(1), "d"),
            (Table(1), ["a"]), (Table(1), ("a",)), (Family(1), "a"), ((1,), "a"), object()]
    return told + [(value, "a") for value in no_tables()] + [(Table(1), value) for value in no_names()]


def drawn_table(draw, size, bottom=1):
    """A table with drawn points."""
    while True:
        told = [Fraction(draw.randint(0, size), draw.randint(1, bottom)) for _ in range(draw.randint(1, 5))]
        told = sorted(told, reverse=True)
        if told[0] > 0:
            return Table(*[Ratio(point.numerator, point.denominator) for point in told])


def drawn_wishes(draw, riders, size, bottom=1):
    """Wishes by tables that are much like each other, or sums of others."""
    wishes = []
    for _ in range(draw.randint(0, 4)):
        table = drawn_table(draw, size, bottom)
        if wishes and draw.randint(0, 2):
            table = draw.choice(wishes)[0] * draw.randint(1, 3)
            if draw.randint(0, 1):
                table = table + draw.choice(wishes)[0] * Ratio(draw.randint(1, 5), draw.randint(1, 3))
        wishes.append((table, draw.choice(riders)))
    return wishes


class WishCase(Case):
    def does_fulfil(self, chart, wishes):
        """Whether the chart fulfils the wishes, by the points of each rider."""
        return all(points(chart, table, rider) > points(chart, table, other)
                   for table, rider in wishes for other in chart.riders() if other != rider)

    def does_bar(self, riders, wishes, bar):
        """Whether the dicts bar the wishes, by the sums of the document."""
        told = [{rider: fraction(number) for rider, number in part.items()} for part in bar]
        if len(bar) != len(wishes) or not any(told):
            return False
        for (_, own), part in zip(wishes, told):
            if own in part or not set(part) <= set(riders) or not all(number > 0 for number in part.values()):
                return False
        for rider, place in product(riders, range(5)):
            more = sum(fractions(table.points())[place] * sum(part.values())
                       for (table, own), part in zip(wishes, told) if own == rider)
            less = sum(fractions(table.points())[place] * part[rider]
                       for (table, own), part in zip(wishes, told) if rider in part)
            if more > less:
                return False
        return True

    def judged(self, riders, wishes):
        """Checks that just one of a chart and a bar shows the truth; whether it is a chart."""
        chart, bar = wished_chart(riders=riders, wishes=wishes), wish_bar(riders=riders, wishes=wishes)
        self.assertEqual([chart, bar], [wished_chart(riders, wishes), wish_bar(riders, wishes)])
        self.assertIs(can_all(riders, wishes), chart is not None)
        self.assertIs(can_all(riders=riders, wishes=wishes), chart is not None)
        if chart is not None:
            self.assertIsNone(bar)
            self.assertIs(type(chart), Chart)
            self.assertEqual(chart.riders(), sorted(riders))
            self.assertTrue(self.does_fulfil(chart, wishes))
            self.assertIs(fulfils(chart, wishes), True)
            return True
        self.assertIs(type(bar), list)
        for part in bar:
            self.assertIs(type(part), dict)
            self.assertEqual(list(part), sorted(part))
            self.assertTrue({type(number) for number in part.values()} <= {Ratio})
        self.assertTrue(self.does_bar(riders, wishes, bar))
        self.assertIs(is_wish_bar(riders, wishes, bar), True)
        return False


class JudgedTest(WishCase):
    def test_drawn_wishes(self):
        draw = random.Random(141)
        found = [0, 0]
        for size, bottom in [(1, 1), (2, 1), (4, 3)] * 80 + [(BIG, 1), (BIG, BIG)] * 10:
            riders = draw.sample("abcdef", draw.randint(1, 6))
            found[self.judged(riders, drawn_wishes(draw, riders, size, bottom))] += 1
        self.assertGreater(min(found), 60)

    def test_all_wishes_for_two_riders(self):
        tables = [Table(1), Table(1, 1), Table(2, 1), Table(3, 2, 1), Table(2, 1, 1, 1, 1)]
        for one, other in product(tables, repeat=2):
            for riders in [("a", "b"), ["b", "a", "c"]]:
                self.assertIs(self.judged(riders, [(one, "a"), (other, "b")]), one != other)
                self.assertIs(self.judged(riders, [(one, "b"), (other, "b")]), True)

    def test_one_table(self):
        for table in [Table(1), Table(5, 4, 3, 2, 1), Table(HALF), Table(BIG, 1), Table(Ratio(BIG, BIG - 2), HALF)]:
            for times in [1, 7, Ratio(1, 3), BIG, Ratio(BIG, BIG - 1)]:
                self.assertIs(self.judged(["a", "b"], [(table, "b"), (table * times, "a")]), False)
                self.assertIs(self.judged(["a", "b"], [(table, "b"), (table * times, "b")]), True)

    def test_nearly_like_tables(self):
        for small in [Ratio(1, BIG), Ratio(1, 1000), Ratio(BIG - 1, BIG)]:
            for one, other in [(Table(3, 2, 1), Table(3, 2, 1 + small)), (Table(3, 2, 1), Table(3 + small, 2, 1)),
                               (Table(BIG, BIG - 1), Table(BIG, BIG)), (Table(1), Table(1, small)),
                               (Table(2, 2, 2, 2, 1), Table(2, 2, 2, 2, 1 + small * HALF))]:
                self.assertIs(self.judged(["a", "b"], [(one, "a"), (other, "b")]), True)
                self.assertIs(self.judged(["b", "c", "a"], [(one, "a"), (other, "b"), (one * 3, "a")]), True)
                self.assertIs(self.judged(["b", "c", "a"], [(one, "a"), (other, "b"), (one * 3, "c")]), False)

    def test_several_wishes_for_one_rider(self):
        one, other = Table(4, 1), Table(4, 3, 2)
        for a, b in [(1, 1), (1, 9), (HALF, Ratio(1, BIG)), (BIG, 1)]:
            between = one * a + other * b
            self.assertIs(self.judged(["a", "b"], [(one, "a"), (other, "a"), (between, "b")]), False)
            self.assertIs(self.judged(["c", "b", "a"], [(between, "c"), (one, "a"), (other, "a")]), False)
            self.assertIs(self.judged(["a", "b", "c"], [(one, "a"), (other, "b"), (between, "c")]), True)
            beside = between + Table(Ratio(1, BIG))
            self.assertIs(self.judged(["a", "b"], [(one, "a"), (other, "a"), (beside, "b")]), True)
        third = Table(1, 1, 1, 1)
        self.assertIs(self.judged(["a", "b"], [(one, "a"), (other, "a"), (third, "a"), (third + one * 2 + other, "b")]),
                      False)
        self.assertIs(self.judged(["a", "b"], [(one, "a"), (other, "a"), (third, "a"), (Table(1), "b")]), True)
        self.assertIs(self.judged(["a", "b"], [(one, "a"), (other, "b"), (one, "a"), (other, "b")]), True)

    def test_wishes_in_a_ring(self):
        # Each of three riders shares a table with the next one, so that two of each pair are at odds.
        one, other, third = Table(1), Table(1, 1), Table(1, 1, 1)
        self.assertIs(self.judged(["a", "b", "c"], [(one, "a"), (other, "b"), (third, "c"), (one * 2, "b")]), False)
        self.assertIs(self.judged(["a", "b", "c"], [(one, "a"), (other, "b"), (third, "c"), (third * 2, "c")]), True)

    def test_four_riders(self):
        for tables in permutations([Table(1), Table(2, 1), Table(3, 2, 1), Table(4, 3, 2, 1)]):
            self.assertIs(self.judged(list("fbda"), list(zip(tables, "abdf"))), True)

    def test_no_wish_and_one_rider(self):
        for riders in ["a", "fb", "abcdef"]:
            for wishes in [[], ()]:
                self.assertIs(self.judged(list(riders), wishes), True)
                for value in [[], (), [{}], None, [{"a": 1}]]:
                    self.assertIs(is_wish_bar(list(riders), wishes, value), False)
        for wishes in [[(Table(1), "a")], [(Table(1), "a"), (Table(1, 1), "a")], [(Table(HALF), "a")] * 4]:
            self.assertIs(self.judged(["a"], wishes), True)
            for value in [[], [{}] * len(wishes), [{"a": 1}] * len(wishes), [{"b": 1}] * len(wishes)]:
                self.assertIs(is_wish_bar(["a"], wishes, value), False)
            self.assertIs(self.judged(["c", "a", "b"], wishes), True)

    def test_sequence_of_riders(self):
        draw = random.Random(142)
        for _ in range(30):
            riders = list("abcd")
            wishes = drawn_wishes(draw, riders, 3)
            told = [wished_chart(riders, wishes), wish_bar(riders, wishes)]
            draw.shuffle(riders)
            self.assertEqual([wished_chart(riders, wishes), wish_bar(tuple(riders), tuple(wishes))], told)


class FulfilsTest(WishCase):
    def test_by_points(self):
        draw = random.Random(143)
        found = [0, 0]
        for _ in range(300):
            riders = "abcdef"[:draw.randint(1, 4)]
            chart = Chart({rider: [draw.randint(0, 3) for _ in range(draw.randint(0, 5))] for rider in riders})
            wishes = [(drawn_table(draw, 3), draw.choice(riders)) for _ in range(draw.randint(0, 4))]
            wanted = self.does_fulfil(chart, wishes)
            self.assertIs(fulfils(chart, wishes), wanted)
            self.assertIs(fulfils(chart=chart, wishes=tuple(wishes)), wanted)
            found[wanted] += 1
        self.assertGreater(min(found), 50)

    def test_just_and_just_not(self):
        chart = Chart({"a": [2], "b": [1, 2], "c": [0, 0, 9]})
        for wishes, wanted in [([(Table(3, 1), "a")], True), ([(Table(2, 1), "a")], False),
                               ([(Table(2 + Ratio(1, BIG), 1), "a")], True),
                               ([(Table(2, 1 + Ratio(1, BIG)), "b")], True),
                               ([(Table(3, 1), "a"), (Table(1, 1), "b")], True),
                               ([(Table(3, 1), "a"), (Table(1, 1), "b"), (Table(1, 1, 1), "c")], True),
                               ([(Table(3, 1), "a"), (Table(1, 1), "b"), (Table(3, 3, 1), "c")], False), ([], True)]:
            self.assertIs(fulfils(chart, wishes), wanted)

    def test_errors(self):
        chart = Chart({"a": [1], "b": [], "c": []})
        for value in no_charts():
            self.assertFailsAlike(InvalidChart, {"value": value}, fulfils, chart=value, wishes=[])
            self.assertFails(InvalidChart, {"value": value}, fulfils, value, None)
        for value in no_lists():
            self.assertFailsAlike(InvalidWishes, {"position": None}, fulfils, chart=chart, wishes=value)
        for value in no_wishes():
            self.assertFailsAlike(InvalidWishes, {"position": 0}, fulfils, chart=chart, wishes=[value])
            self.assertFailsAlike(InvalidWishes, {"position": 1}, fulfils, chart=chart,
                                  wishes=((Table(1), "b"), value, value))
            self.assertFailsAlike(InvalidWishes, {"position": 4}, fulfils, chart=chart,
                                  wishes=[(Table(1), "a")] * 4 + [value])
        self.assertFailsAlike(TooMany, TOO_MANY_WISHES, fulfils, chart=chart, wishes=[(Table(1), "a")] * 5)


class BarTest(WishCase):
    def test_told_ones(self):
        wishes = [(Table(1), "a"), (Table(2), "b")]
        for value, wanted in [([{"b": 2}, {"a": 1}], True), ([{"b": 1}, {"a": HALF}], True),
                              (({"b": 2}, {"a": 1}), True),
                              ([{"b": 2}, {"a": 2}], False), ([{"b": 2}, {"a": Ratio(BIG - 1, BIG)}], False),
                              ([{"b": 2 * BIG}, {"a": BIG}], True), ([{"a": 1}, {"b": 2}], False),
                              ([{"b": 2}, {}], False), ([{}, {"a": 1}], False), ([{}, {}], False)]:
            self.assertIs(is_wish_bar(["a", "b"], wishes, value), wanted, value)
            self.assertIs(is_wish_bar(riders=("b", "a"), wishes=tuple(wishes), value=value), wanted)
        self.assertIs(is_wish_bar(["a", "b", "c"], wishes, [{"b": 2}, {"a": 1}]), True)
        self.assertIs(is_wish_bar(["a", "b", "c"], wishes, [{"b": 2, "c": Ratio(1, BIG)}, {"a": 1}]), False)

    def test_each_place_counts(self):
        for k in range(5):
            for more, less in [(Table(*[3] * (k + 1)), Table(*[3] * k, 2) if k else Table(3, 1)),
                               (Table(9, *[2] * k), Table(9, *[2] * k, 1) if k < 4 else Table(9, 2, 2, 2, 1))]:
                wishes = [(more, "a"), (less, "b")]
                self.assertIs(is_wish_bar(["a", "b"], wishes, [{"b": 1}, {"a": 1}]), False)
                self.assertIs(is_wish_bar(["a", "b"], wishes[::-1], [{"a": 1}, {"b": 1}]), False)
                self.assertIs(self.judged(["a", "b"], wishes), True)
                like = [(more, "a"), (more, "b")]
                self.assertIs(is_wish_bar(["a", "b"], like, [{"b": 1}, {"a": 1}]), True)

    def test_no_bars(self):
        wishes = [(Table(1), "a"), (Table(2), "b")]
        right = [{"b": 2}, {"a": 1}]
        wrong = [right[:1], right + [{}], right + [{"c": 1}], [right], {0: right[0], 1: right[1]}, [{"b": 2}, ("a", 1)],
                 [{"b": 2}, [("a", 1)]], [["b"], ["a"]], ["b", "a"], [None, {"a": 1}], [{"b": 2}, None], [2, 1],
                 [{"b": 2, "a": 1}, {"a": 1}], [{"b": 2}, {"a": 1, "b": 1}], [{"b": 2}, {"a": 1, "d": 1}],
                 [{"b": 2}, {"a": 0}], [{"b": 0}, {"a": 0}], [{"b": 2}, {"a": 1, "c": 0}], [{"b": 2}, {"a": -1}],
                 [{"b": -2}, {"a": -1}], [{"b": 2}, {"a": 1, "c": Ratio(0)}], [{"b": 2}, {"a": 1, "c": -1}],
                 [{"b": 2}, {True: 1}], [{1: 2}, {0: 1}], [{("b",): 2}, {"a": 1}], [{"b": [2]}, {"a": [1]}]]
        wrong += [[{"b": value}, {"a": 1}] for value in no_numbers()]
        wrong += [[{"b": 2}, {"a": 1, "c": value}] for value in no_numbers()]
        for value in wrong + no_lists():
            self.assertIs(is_wish_bar(["a", "b", "c"], wishes, value), False, repr(value))
        self.assertIs(is_wish_bar(["a", "b", "c"], wishes, right), True)

    def test_multiplied_and_spoilt(self):
        draw = random.Random(144)
        found = changed = 0
        while found < 40:
            riders = draw.sample("abcdef", draw.randint(2, 5))
            wishes = drawn_wishes(draw, riders, 3, 2)
            bar = wish_bar(riders, wishes)
            if bar is None:
                continue
            found += 1
            for times in [2, Ratio(1, 7), BIG]:
                value = [{rider: number * times for rider, number in part.items()} for part in bar]
                self.assertIs(is_wish_bar(riders, wishes, value), True)
            for position, rider, number in product(range(len(wishes)), riders, [Ratio(1, BIG), 1, 5, None]):
                value = [dict(part) for part in bar]
                if number is None:
                    value[position].pop(rider, None)
                else:
                    value[position][rider] = number
                wanted = self.does_bar(riders, wishes, value)
                self.assertIs(is_wish_bar(riders, wishes, value), wanted)
                changed += not wanted
        self.assertGreater(changed, 100)


class ErrorsTest(Case):
    def calls(self):
        return [(can_all, {}), (wished_chart, {}), (wish_bar, {}), (is_wish_bar, {"value": [{"b": 2}, {"a": 1}]})]

    def test_riders(self):
        for call, more in self.calls():
            for wishes in [[], [(Table(1), "a")], None, [None], [(Table(1), "a")] * 5]:
                for value in [*no_lists(), [], ()]:
                    self.assertFailsAlike(InvalidRiders, {"position": None}, call, riders=value, wishes=wishes, **more)
                for value in [*no_names(), "a", "b"]:
                    self.assertFailsAlike(InvalidRiders, {"position": 2}, call, riders=["a", "b", value],
                                          wishes=wishes, **more)
                self.assertFailsAlike(InvalidRiders, {"position": 6}, call, riders=list("abcdefa"), wishes=wishes,
                                      **more)
                self.assertFailsAlike(TooMany, TOO_MANY_RIDERS, call, riders=list("abcdefg"), wishes=wishes, **more)

    def test_wishes(self):
        riders = ["c", "a", "b"]
        for call, more in self.calls():
            for value in no_lists():
                self.assertFailsAlike(InvalidWishes, {"position": None}, call, riders=riders, wishes=value, **more)
            for value in no_wishes():
                self.assertFailsAlike(InvalidWishes, {"position": 0}, call, riders=riders, wishes=[value], **more)
                self.assertFailsAlike(InvalidWishes, {"position": 1}, call, riders=riders,
                                      wishes=((Table(1), "b"), value, value), **more)
                self.assertFailsAlike(InvalidWishes, {"position": 4}, call, riders=riders,
                                      wishes=[(Table(1), "a")] * 4 + [value], **more)
            self.assertFailsAlike(TooMany, TOO_MANY_WISHES, call, riders=riders, wishes=[(Table(1), "a")] * 5, **more)

    def test_nothing_changes(self):
        riders, wishes, value = ["b", "a"], [(Table(1), "a"), (Table(2), "b")], [{"b": 2}, {"a": 1}]
        self.assertNew(lambda: wish_bar(riders, wishes))
        self.assertNew(lambda: wish_bar(["a", "b", "c"], wishes + [(Table(1, 1), "a"), (Table(1, 1), "b")]))
        for call in [lambda: can_all(riders, wishes * 3), lambda: wish_bar([], wishes),
                     lambda: wished_chart(riders, 1)]:
            with self.assertRaises((ValueError, ArithmeticError)):
                call()
        for call in [lambda: can_all(riders, wishes), lambda: wished_chart(riders, wishes[:1]),
                     lambda: is_wish_bar(riders, wishes, value), lambda: fulfils(year_chart(), wishes)]:
            self.assertEqual(call(), call())
        self.assertEqual([riders, wishes, value],
                         [["b", "a"], [(Table(1), "a"), (Table(2), "b")], [{"b": 2}, {"a": 1}]])


if __name__ == "__main__":
    unittest.main()
