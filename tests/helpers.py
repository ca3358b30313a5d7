"""What several tests need: values of wrong kinds, and a check of errors."""

import random
import unittest
from fractions import Fraction
from math import lcm
from operator import mul

from anypoints.charts import Chart
from anypoints.diaries import Diary
from anypoints.families import Family
from anypoints.ratios import Ratio
from anypoints.seasons import Season
from anypoints.tables import Table

BIG = 10 ** 30 - 1


def no_numbers():
    """Values that are no NUMBERS, of many kinds."""
    return [True, False, None, "1", "", "1/2", b"1", (1,), (), [1], [], {1: 1}, {}, {1}, object(), Table(1), Family(1)]


def no_integers():
    return no_numbers() + [Ratio(1), Ratio(1, 2)]


def no_places():
    return no_integers() + [0, 6, -1, BIG, slice(1, 2)]


def no_tables():
    return [True, False, None, 0, 1, "Table(1)", (1, 0), [1], [1, 0, 0, 0, 0], {1: 1}, Ratio(1), Family(1), Table]


def no_families():
    return [True, False, None, 0, 1, 5, "all 5", (1,), [], {}, (5, (1, -2)), Ratio(1), Table(1), Family]


def no_counts():
    """Values that are no COUNTS, of many kinds."""
    return no_integers() + [-1, -BIG]


def no_rows():
    """Values that are no rows, of many kinds."""
    told = [[], [1] * 4, [1] * 6, [1, 2, 3, 4, True], [False, 0, 0, 0, 0], [0, 0, None, 0, 0], [0, 0, 0, "0", 0],
            [0, 0, 0, Ratio(0), 0], [[0], 0, 0, 0, 0], (1,) * 4, (1,) * 6, (0, 0, 0, 0, False),
            {0: 0, 1: 0, 2: 0, 3: 0, 4: 0}, {0, 1, 2, 3, 4}, range(5), "00000", b"00000", None, True, 0, 5, Ratio(5),
            Table(1, 1, 1, 1, 1), Family(5), Chart({"a": [1, 1, 1, 1, 1]}), object()]
    return told


def no_names():
    """Values that are no NAMES, of many kinds."""
    return [None, True, False, 0, 1, "", "A", "aB", "a b", " a", "a1", "abcdefghi", "-", "a\n", b"a", ["a"], ("a",),
            {"a": 1}, {"a"}, [], (), {}, Ratio(1), Table(1), Season(["a"]), Chart({"a": []}), object()]


def no_keys():
    """Values that are no NAMES, and that can be keys of a dict."""
    return [None, True, False, 0, 1, "", "A", "aB", "a b", " a", "a1", "abcdefghi", "-", "a\n", b"a", ("a",), (),
            object()]


def no_races():
    """Values that are no races, whoever the riders are."""
    return [None, True, False, 0, 3, "", "a", "ab", b"a", {}, {"a": 1}, {"a"}, iter(["a"]), range(0), Ratio(1),
            Table(1), Season(["a"]), [None], ["a", None], ("a", None), [None, None], ["a", "a"], ["a", None, "a"],
            ["A"], [""], ["abcdefghi"], ["a", 1], ["a", True], [False, "a"], [["a"]], [("a",), "b"], [{}, "a"],
            ["a", b"b"],
            ["a", "b", "c", "d", "e", "f", "g"], ["a", None, None, None, None, None, "b"], [None] * 7, object()]


def no_seasons():
    """Values that are no Seasons, of many kinds."""
    return [None, True, False, 0, 1, "a", [], ["a"], [["a"], []], (["a"], []), {"a": []}, Ratio(1), Table(1), Family(1),
            Chart({"a": [1]}), Diary(Season(["a"])), Season, object()]


def no_charts():
    """Values that are no Charts, of many kinds."""
    return [None, True, False, 0, 1, "a", [], ["a"], (), {}, {"a": [1, 0, 0, 0, 0]}, {"a": []}, Ratio(1), Table(1),
            Family(1), Season(["a"], [["a"]]), Diary(Season(["a"])), Chart, object()]


def fractions(ratios):
    """The Ratios as fractions of Python's own."""
    return [Fraction(one.top, one.bottom) for one in ratios]


def drawn_season(draw, riders, many):
    """A season of these riders with so many drawn races, in which nobody may hold a place."""
    races = []
    for _ in range(many):
        race = [rider if draw.randint(0, 5) else None for rider in draw.sample(riders, draw.randint(0, len(riders)))]
        while race and race[-1] is None:
            race.pop()
        races.append(race)
    return Season(riders, races)


def seasons():
    """Seasons of many kinds, each with the riders a and b and some races."""
    draw = random.Random(11)
    told = [Season(["a", "b"], [["b"]]), Season(("b", "a"), ([], ("a", None, "b"), ())),
            Season(list("fedcba"), [list("abcdef"), list("fedcba"), [None, None, None, None, None, "a"]])]
    return told + [drawn_season(draw, list("abcdef")[:2 + k % 5], 1 + k % 9) for k in range(40)]


def drawn_chart(draw, riders, size):
    """A chart of these riders with drawn counts."""
    return Chart({rider: [draw.randint(0, size) for _ in range(draw.randint(0, 5))] for rider in riders})


def drawn_charts(seed, many, size, least=1):
    """Charts of one to six riders (or of at least so many), with drawn counts."""
    draw = random.Random(seed)
    return [drawn_chart(draw, "abcdef"[:draw.randint(least, 6)], size) for _ in range(many)]


def some_families():
    """A few families that differ much from each other."""
    told = [Family(k) for k in range(1, 6)] + [Family.shrinking(k) for k in range(2, 6)]
    told += [Family.doubling(k) for k in range(2, 6)] + [Family(3, (1, -2)), Family(5, (0, -1)), Family(5, (-1, 5))]
    told += [Family(5, (1, -1), (-1, 1)), Family(4, (-1, 3), (1, -2), (0, 1, -2)), Family(5, (1, -1, -1, -1, -1))]
    told += [Family(2, (2, -3), (-2, 3)), Family(5, (-1, 2, 0, 0, 0), (0, 3, -4), (-5, 7, 0, 1), (1, 1, -3))]
    return told


def inside(family):
    """Tables of the family: its corners, and sums of them."""
    draw = random.Random(12)
    corners = family.corners()
    found = list(corners)
    for one in corners:
        for other in corners:
            found.append(one * draw.randint(1, 4) + other * Ratio(1, draw.randint(1, 9)))
    for _ in range(10):
        table = draw.choice(corners)
        for corner in corners:
            table = table + corner * Ratio(draw.randint(1, 9), draw.randint(1, 9))
        found.append(table)
    return found


def points(chart, table, rider):
    """The points of the rider as a fraction of Python's own."""
    return sum(many * point for many, point in zip(chart.rows()[rider], fractions(table.points())))


def scaled(table):
    """The points of the table, multiplied such that they are integers."""
    told = fractions(table.points())
    whole = lcm(*[point.denominator for point in told])
    return [int(point * whole) for point in told]


def lead(chart, one, rival, scale):
    """How many points one has more than the rival, by points that are integers."""
    return sum(map(mul, chart[one], scale)) - sum(map(mul, chart[rival], scale))


def sign(number):
    return (number > 0) - (number < 0)


def spoilt(value):
    """Changes every list and dict in the value, and returns them."""
    found = []
    if isinstance(value, (list, tuple)):
        found = [part for inner in value for part in spoilt(inner)]
    if isinstance(value, dict):
        found = [part for inner in value.values() for part in spoilt(inner)]
    if isinstance(value, list):
        found.append(value)
        value.reverse()
        value.append("spoilt")
    if isinstance(value, dict):
        found.append(value)
        value.clear()
        value["spoilt"] = 1
    return found


def keeps(family, told):
    """Whether the points, numbers of Python's own, are those of a table of the family, by the words of the document."""
    sayings = [list(saying) + [0] * (5 - len(saying)) for saying in family.sayings()]
    falling = all(a >= b for a, b in zip(told, told[1:])) and told[4] >= 0 and told[0] > 0
    return falling and not any(told[family.paid:]) and all(sum(map(mul, saying, told)) >= 0 for saying in sayings)


class Case(unittest.TestCase):
    def assertInside(self, table, family):
        """Checks that this is a Table, and one of the family."""
        self.assertIs(type(table), Table)
        self.assertTrue(keeps(family, fractions(table.points())), (table, family))

    def assertNew(self, call):
        """Checks that what the call returns is new each time, and that changing it changes nothing."""
        before, changed = repr(call()), call()
        found = spoilt(changed) + spoilt(call())
        self.assertGreater(len(found), 0)
        self.assertEqual(len({id(part) for part in found}), len(found))
        self.assertNotEqual(repr(changed), before)
        self.assertEqual(repr(call()), before)

    def assertFailsAlike(self, kind, values, call, **named):
        """Checks the error by names and by positions; the names stand in the sequence of the parameters."""
        self.assertFails(kind, values, call, **named)
        self.assertFails(kind, values, call, *named.values())

    def assertFails(self, kind, values, call, *passed, **named):
        """Checks that the call raises just this error, with these values as attributes."""
        with self.assertRaises(kind) as caught:
            call(*passed, **named)
        self.assertIs(type(caught.exception), kind)
        told = vars(caught.exception)
        self.assertEqual(sorted(told), sorted(values))
        for name, value in values.items():
            self.assertIs(type(told[name]), type(value))
            if told[name] is not value:
                self.assertEqual(told[name], value)
