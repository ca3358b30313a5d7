import random
import unittest
from itertools import permutations, product
from operator import mul

from anypoints.charts import Chart, chart_of
from anypoints.diaries import Diary
from anypoints.errors import InvalidClaim
from anypoints.families import Family
from anypoints.judge import KINDS_OF_CLAIMS, is_claim, is_paper, paper
from anypoints.mixes import ENDS
from anypoints.ratios import Ratio
from anypoints.seasons import Season
from anypoints.tables import Table
from tests.helpers import (BIG, Case, drawn_charts, fractions, keeps, no_charts, no_counts, no_families, no_names,
                           some_families)
from tests.test_families import plain_corners
from tests.test_mixes import barred, comes_to, fraction, no_ends, year_chart
from tests.test_orders import comes, no_orders
from tests.test_rounds import drawn_by_races, full_charts, sums
from tests.test_winners import AT_ONE_POINT, BETWEEN_THREE, SPECIAL
from tests.test_wishes import drawn_wishes, no_lists, no_wishes

FREE = Family(5)
KINDS = ("never behind", "can be behind", "can be", "cannot be", "comes", "never comes", "within", "beyond", "fits",
         "too many", "wished", "unwished")
CONTRARY = {kind: KINDS[k + 1 - 2 * (k % 2)] for k, kind in enumerate(KINDS)}


def is_told_number(value):
    return isinstance(value, Ratio) or type(value) is int


def are_numbers(value, many):
    """Whether this is a list of so many NUMBERS from 0 on."""
    if not isinstance(value, (list, tuple)) or len(value) != many or not all(map(is_told_number, value)):
        return False
    return all(fraction(number) >= 0 for number in value)


def totals(chart, told):
    """The points of all riders by these points for the places."""
    return {rider: sum(map(mul, row, told)) for rider, row in chart.rows().items()}


def is_table(family, value, holds):
    """Whether the value is a table of the family by whose points something holds."""
    if not isinstance(value, Table):
        return False
    told = fractions(value.points())
    return keeps(family, told) and holds(told)


def derives(family, row, value):
    """Whether the value is a derivation of the row, by the sums of the document."""
    if not isinstance(value, tuple) or len(value) != 2:
        return False
    if not are_numbers(value[0], len(family.sayings())) or not are_numbers(value[1], family.paid):
        return False
    by_saying, by_place = [[fraction(number) for number in part] for part in value]
    for p in range(family.paid):
        told = sum(saying[p] * number for saying, number in zip(family.sayings(), by_saying)) + by_place[p]
        if told - (by_place[p - 1] if p else 0) != row[p]:
            return False
    return True


def bars_end(chart, family, rider, end, value):
    if not isinstance(value, dict) or not value:
        return False
    if not all(type(name) is str and name in chart.rows() and name != rider for name in value):
        return False
    if not all(is_told_number(number) and fraction(number) > 0 for number in value.values()):
        return False
    if sum(fraction(number) for number in value.values()) != 1:
        return False
    for corner in plain_corners(family.paid, family.sayings()):
        told = totals(chart, corner)
        if not barred(told[rider], sum(told[name] * fraction(number) for name, number in value.items()), end):
            return False
    return True


def bars_order(chart, family, order, value):
    if not are_numbers(value, len(order) - 1) or not any(fraction(number) for number in value):
        return False
    for corner in plain_corners(family.paid, family.sayings()):
        told = totals(chart, corner)
        if sum((told[a] - told[b]) * fraction(number) for a, b, number in zip(order, order[1:], value)) > 0:
            return False
    return True


def shows_within(family, other, value):
    rows = [list(row) for row in other.sayings()]
    rows += [[-int(place == at) for at in range(1, 6)] for place in range(1, 6) if other.paid < place <= family.paid]
    if not isinstance(value, (list, tuple)) or len(value) != len(rows):
        return False
    return all(derives(family, row, part) for row, part in zip(rows, value))


def is_season_of(chart, many, value):
    if not isinstance(value, Season) or value.riders() != chart.riders() or len(value.races()) != many:
        return False
    rows = {rider: [0] * 5 for rider in chart.riders()}
    for race in value.races():
        for place, rider in enumerate(race[:5]):
            if rider is not None:
                rows[rider][place] += 1
    return rows == chart.rows()


def is_excess_of(chart, many, value):
    return any(type(value) is tuple and len(value) == 2 and type(value[1]) is type(name[1]) and value == name
               for name, number in sums(chart).items() if number > many)


def is_chart_for(riders, wishes, value):
    if not isinstance(value, Chart) or value.riders() != sorted(riders):
        return False
    return all(comes_alone(totals(value, fractions(table.points())), rider) for table, rider in wishes)


def comes_alone(told, rider):
    return all(told[other] < told[rider] for other in told if other != rider)


def bars_wishes(riders, wishes, value):
    if not isinstance(value, (list, tuple)) or len(value) != len(wishes) or not any(value):
        return False
    for (_, own), part in zip(wishes, value):
        if not isinstance(part, dict):
            return False
        if not all(type(name) is str and name in riders and name != own for name in part):
            return False
        if not all(is_told_number(number) and fraction(number) > 0 for number in part.values()):
            return False
    for rider, place in product(riders, range(5)):
        told = 0
        for (table, own), part in zip(wishes, value):
            point = fractions(table.points())[place]
            if own == rider:
                told += point * sum(fraction(number) for number in part.values())
            elif rider in part:
                told -= point * fraction(part[rider])
        if told > 0:
            return False
    return True


def own_judge(claim, value):
    """Whether the value is a paper of the claim, by the words of the document."""
    kind, *told = claim
    if kind == "never behind":
        chart, family, one, other = told
        return derives(family, [a - b for a, b in zip(chart[one], chart[other])], value)
    if kind == "can be behind":
        chart, family, one, other = told
        return is_table(family, value, lambda scale: totals(chart, scale)[one] < totals(chart, scale)[other])
    if kind == "can be":
        chart, family, rider, end = told

        def holds(scale):
            found = totals(chart, scale)
            return comes_to(found[rider], [found[other] for other in found if other != rider], end)
        return is_table(family, value, holds)
    if kind == "cannot be":
        return bars_end(*told, value)
    if kind == "comes":
        chart, family, order = told
        return is_table(family, value, lambda scale: comes(totals(chart, scale), order))
    if kind == "never comes":
        return bars_order(*told, value)
    if kind == "within":
        return shows_within(*told, value)
    if kind == "beyond":
        return is_table(told[0], value, lambda scale: not keeps(told[1], scale))
    if kind == "fits":
        return is_season_of(*told, value)
    if kind == "too many":
        return is_excess_of(*told, value)
    if kind == "wished":
        return is_chart_for(*told, value)
    return bars_wishes(*told, value)


def with_part(value, k, part):
    """The list or tuple with this part at the position."""
    return type(value)([*value[:k], part, *value[k + 1:]])


def changed(value):
    """Values that differ from this one in one place."""
    if isinstance(value, bool) or value is None or isinstance(value, str):
        return [None, True, "b", "z", ["a"]]
    if isinstance(value, int):
        return [value + 1, value - 1, -value, True, str(value), Ratio(value), [value]]
    if isinstance(value, Ratio):
        return [value + 1, value - 1, value * 2, -value, value + Ratio(1, BIG), 0, 1, None, True, str(value), [value]]
    if isinstance(value, Table):
        told = value.points()
        found = [Table(told[0] + step, *told[1:]) for step in [1, Ratio(1, BIG), 7]]
        found += [Table(*told[:k]) for k in range(1, 5)]
        found += [Table(*told[:k], *[told[k - 1]] * (5 - k)) for k in range(1, 5)] + [value * 2, value + Table(1, 1)]
        return found + [told, tuple(told), str(value), None, (value,), Family(1)]
    if isinstance(value, Chart):
        found = [None, value.rows(), (value,), value * 2, repr(value), Chart(dict(list(value.rows().items())[:1]))]
        if len(value) < 6:
            found.append(Chart({**value.rows(), "z": []}))
        for rider, k in product(value.riders(), range(5)):
            row = value[rider]
            found.append(Chart({**value.rows(), rider: row[:k] + [row[k] + 1] + row[k + 1:]}))
            found.append(Chart({**value.rows(), rider: row[:k] + [0] + row[k + 1:]}))
        return found
    if isinstance(value, Season):
        races = value.races()
        found = [None, races, chart_of(value), Diary(value), (value,), Season(value.riders()[:1])]
        if len(value.riders()) < 6:
            found.append(Season([*value.riders(), "z"], races))
        found += [Season(value.riders(), races[:k] + races[k + 1:]) for k in range(len(races))]
        found += [Season(value.riders(), [*races[:k], [], *races[k + 1:]]) for k in range(len(races))]
        found += [Season(value.riders(), with_part(races, k, race[::-1])) for k, race in enumerate(races)
                  if race and race[0] is not None]
        return found + ([Season(value.riders(), races[::-1])] if races else [])
    if isinstance(value, dict):
        found = [None, list(value.items()), list(value), {}, {**value, "z": 1}, {**value, "a": 1},
                 {**value, "b": Ratio(1, 2)}]
        for key in value:
            found += [{name: value[name] for name in value if name != key}]
            found += [{**value, key: part} for part in changed(value[key])]
        return found
    found = [None, value + value[:1], (value,), dict(enumerate(value)), value + type(value)([1]), repr(value)]
    for k in range(len(value)):
        found += [value[:k] + value[k + 1:]] + [with_part(value, k, part) for part in changed(value[k])]
    other = tuple if isinstance(value, list) else list
    return found + [other(value), value[::-1]]


def rider_claims(chart, family, draw):
    """Pairs of claims of two riders, of an end and of an order."""
    riders = chart.riders()
    one, other = draw.choice(riders), draw.choice(riders)
    order = draw.sample(riders, len(riders))
    if draw.randint(0, 1):
        order = sorted(riders, key=lambda rider: chart[rider], reverse=True)
    return [("never behind", chart, family, one, other), ("can be", chart, family, one, draw.choice(ENDS)),
            ("comes", chart, family, draw.choice([list, tuple])(order))]


def race_claims(draw):
    chart = drawn_by_races(draw, "abcdef"[:draw.randint(1, 6)], draw.randint(0, 12))
    return [("fits", chart, draw.choice([0, max(sums(chart).values()), max(sums(chart).values()) - 1, 12]))]


def wish_claims(draw):
    riders = draw.sample("abcdef", draw.randint(1, 4))
    return [("wished", draw.choice([list, tuple])(riders), draw.choice([list, tuple])(drawn_wishes(draw, riders, 2)))]


def some_claims(draw):
    """Claims of all kinds but for their contraries."""
    found = []
    families = some_families()
    charts = [year_chart(), BETWEEN_THREE, AT_ONE_POINT] + SPECIAL[:11] + drawn_charts(161, 12, 3)
    for chart in charts:
        found += rider_claims(chart, draw.choice(families), draw)
        found += rider_claims(chart, Family(draw.randint(1, 5)), draw)
    for _ in range(60):
        found.append(("within", draw.choice(families), draw.choice(families)))
        found += race_claims(draw) + wish_claims(draw)
    return [claim for claim in found if claim[0] != "fits" or claim[2] >= 0]


class PaperCase(Case):
    def judged(self, claim):
        """Checks that just one of the claim and its contrary has a paper; whether it is the claim itself."""
        against = (CONTRARY[claim[0]], *claim[1:])
        told, other = paper(claim=claim), paper(against)
        self.assertEqual([told, other], [paper(claim), paper(claim=against)])
        self.assertNotEqual(told is None, other is None)
        true, value = (claim, told) if other is None else (against, other)
        self.assertTrue(own_judge(true, value), (true, value))
        self.assertIs(is_paper(true, value), True)
        self.assertIs(is_paper(claim=true, value=value), True)
        untrue = against if true == claim else claim
        self.assertFalse(own_judge(untrue, value))
        self.assertIs(is_paper(untrue, value), False)
        return told is not None


class KindsTest(Case):
    def test_kinds(self):
        self.assertEqual(KINDS_OF_CLAIMS, KINDS)
        self.assertIs(type(KINDS_OF_CLAIMS), tuple)


class BothWaysTest(PaperCase):
    def test_just_one_of_both(self):
        found = {}
        for seed in range(6):
            for claim in some_claims(random.Random(seed)):
                told = claim[0], self.judged(claim)
                found[told] = found.get(told, 0) + 1
        self.assertEqual(len(found), 12)
        self.assertGreater(min(found.values()), 20)

    def test_all_claims_of_a_year(self):
        chart, found = year_chart(), [0, 0]
        for family in some_families():
            for one, other in product("abcd", repeat=2):
                found[self.judged(("can be behind", chart, family, one, other))] += 1
            for rider, end in product("abcd", ENDS):
                found[self.judged(("cannot be", chart, family, rider, end))] += 1
            for order in permutations("abcd"):
                found[self.judged(("never comes", chart, family, order))] += 1
            for other in some_families():
                found[self.judged(("beyond", family, other))] += 1
        self.assertGreater(min(found), 300)

    def test_numbers_of_races(self):
        for chart, many in full_charts():
            self.assertIs(self.judged(("fits", chart, many)), True)
            self.assertIs(self.judged(("too many", chart, 40)), False)
            self.assertIs(self.judged(("too many", chart, many - 1)), True)
        for many in [41, BIG]:
            self.assertFalse(is_claim(("fits", year_chart(), many)))
            for chart, told in [(year_chart(), None), (Chart({"a": [many]}), None),
                                (Chart({"a": [many], "b": [0, many, 1]}), ("rider", "b"))]:
                self.assertEqual(paper(("too many", chart, many)), told)
                self.assertIs(is_paper(("too many", chart, many), ("rider", "b")), told is not None)
        for many in [0, 39, 40]:
            self.assertIs(self.judged(("fits", Chart({"a": [many]}), many)), True)
            self.assertIs(self.judged(("fits", Chart({"a": [0, 0, 0, 0, many + 1]}), many)), False)

    def test_papers_changed_in_one_place(self):
        found = {}
        for claim in some_claims(random.Random(162)):
            if paper(claim) is None:
                claim = (CONTRARY[claim[0]], *claim[1:])
            for value in changed(paper(claim)):
                wanted = own_judge(claim, value)
                self.assertIs(is_paper(claim, value), wanted, (claim, value))
                found[claim[0], wanted] = found.get((claim[0], wanted), 0) + 1
        for kind in KINDS:
            self.assertGreater(found[kind, False], 50, kind)
        self.assertGreater(len(found), 18)

    def test_papers_of_other_claims(self):
        claims = some_claims(random.Random(163))
        claims += [(CONTRARY[claim[0]], *claim[1:]) for claim in claims]
        papers = [paper(claim) for claim in claims]
        papers = [value for value in papers if value is not None]
        draw = random.Random(164)
        for claim in claims:
            for value in draw.sample(papers, 12):
                self.assertIs(is_paper(claim, value), own_judge(claim, value), (claim, value))


class ToldTest(PaperCase):
    def test_never_behind(self):
        some = Family(3, (1, -2))
        chart = Chart({"a": [1, 0, 0, 0, 0], "b": [0, 1, 1, 0, 0]})
        claim = ("never behind", chart, some, "a", "b")
        self.assertEqual(paper(claim), ([Ratio(1)], [Ratio(0), Ratio(1), Ratio(0)]))
        self.assertIs(is_paper(claim, ([1], [0, 1, 0])), True)
        self.assertIs(is_paper(claim, ((1,), (0, 1, 0))), True)
        self.assertIs(is_paper(claim, [[1], [0, 1, 0]]), False)
        self.assertIsNone(paper(("never behind", chart, FREE, "a", "b")))
        self.assertEqual(paper(("can be behind", chart, FREE, "a", "b")), Table(1, 1, 1))
        self.assertIsNone(paper(("can be behind", chart, some, "a", "b")))
        self.assertIsNone(paper(("can be behind", chart, FREE, "a", "a")))

    def test_within(self):
        self.assertEqual(paper(("within", Family(2), Family(5))), [])
        self.assertIs(is_paper(("within", Family(2), Family(5)), ()), True)
        self.assertIs(is_paper(("within", Family(5), Family(2)), []), False)
        flat = Family(5, (0, 0, 0, -1))
        told = paper(("within", flat, Family(3)))
        self.assertEqual([len(told), [type(part) for part in told]], [2, [tuple, tuple]])
        self.assertIs(self.judged(("within", flat, Family(3))), True)
        self.assertIs(self.judged(("within", flat, Family(2))), False)
        self.assertIs(self.judged(("within", flat, Family(3, (0, 1, -1)))), True)
        self.assertEqual(len(paper(("within", flat, Family(3, (0, 1, -1))))), 3)
        self.assertIs(self.judged(("within", Family.shrinking(5), Family.shrinking(4))), False)
        self.assertIs(self.judged(("within", Family(3, (1, -3)), Family(3, (1, -2)))), True)
        self.assertIs(self.judged(("within", Family(1), Family(1))), True)

    def test_races(self):
        chart = year_chart()
        self.assertEqual(paper(("too many", Chart({"a": [1, 1]}), 1)), ("rider", "a"))
        told = [(("rider", "a"), True), (("place", 1), True), (("rider", "d"), False), (("place", 5), False),
                (["rider", "a"], False), (("rider", "a", 1), False), (("rider",), False), (("place", True), False),
                (("place", Ratio(1)), False), (("place", "1"), False), (("place", 0), False), (("place", 6), False),
                (("rider", 1), False), (("place", "a"), False), (("rider", "z"), False), (("rider", ["a"]), False),
                ((["rider"], "a"), False), ((None, None), False), ("ra", False), ({"rider": "a"}, False), (None, False)]
        for value, wanted in told:
            self.assertIs(is_paper(("too many", chart, 2), value), wanted, value)
            self.assertIs(is_paper(("too many", chart, 3), value), False)
        season = Season(["a", "b", "c", "d"], [["a", "b"], ["b", "c", "d", "a"], ["a", "b"]])
        for value, wanted in [(season, True), (season + Season(list("abcd")), True), (season.with_race([]), False),
                              (Season(list("abcd"), season.races()[::-1]), True), (season.without_race(0), False),
                              (Season(list("abcde"), season.races()), False), (Diary(season), False), (chart, False),
                              (season.voided("a", 1), False), (season.races(), False), (None, False)]:
            self.assertIs(is_paper(("fits", chart, 3), value), wanted)
            self.assertIs(is_paper(("fits", chart, 4), value), value == season.with_race([]))
        # Places behind the fifth one do not stand in the chart.
        six = Season(list("abcdef"), [list("abcdef")])
        self.assertIs(is_paper(("fits", chart_of(six), 1), six), True)
        self.assertIs(is_paper(("fits", chart_of(six), 1), six.voided("f", 0)), True)


class ClaimTest(Case):
    def told_claims(self):
        chart, other, wishes = year_chart(), Family(2), [(Table(1), "a"), (Table(2), "b")]
        found = [(kind, chart, FREE, "a", "b") for kind in KINDS[:2]]
        found += [(kind, chart, FREE, "a", "first") for kind in KINDS[2:4]]
        found += [(kind, chart, FREE, ["a", "b", "c", "d"]) for kind in KINDS[4:6]]
        found += [(kind, FREE, other) for kind in KINDS[6:8]] + [(kind, chart, 3) for kind in KINDS[8:10]]
        return found + [(kind, ["b", "a"], wishes) for kind in KINDS[10:]]

    def no_claims(self):
        """Values that are no claims: of many kinds, and with one place that is wrong."""
        found = [None, True, 0, 1, "", "fits", [], (), ("fits",), ("fits", year_chart()), {}, {"fits"}, Ratio(1), FREE,
                 year_chart(), object(), (["fits"], year_chart(), 3), (None, year_chart(), 3), (("fits",),)]
        wrong = {"chart": no_charts(), "family": no_families(), "rider": no_names() + ["z", "e"], "end": no_ends(),
                 "order": no_orders(), "many": no_counts(),
                 "riders": [*no_lists(), [], ["a"], ["b", "b"], list("abcdefg")],
                 "wishes": no_lists() + [[value] for value in no_wishes()] + [[(Table(1), "a")] * 5, [(Table(1), "c")]]}
        places = [["chart", "family", "rider", "rider"]] * 2 + [["chart", "family", "rider", "end"]] * 2
        places += [["chart", "family", "order"]] * 2 + [["family", "family"]] * 2 + [["chart", "many"]] * 2
        places += [["riders", "wishes"]] * 2
        for claim, names in zip(self.told_claims(), places):
            found += [list(claim), claim[:-1], (*claim, 1), claim[1:], (claim,), dict(enumerate(claim))]
            kinds = ["", "Fits", claim[0] + " ", " " + claim[0], b"fits", True, 0, None]
            found += [(kind, *claim[1:]) for kind in kinds]
            for k, name in enumerate(names, start=1):
                found += [(*claim[:k], value, *claim[k + 1:]) for value in wrong[name]]
        found += [("fits", year_chart(), many) for many in [41, BIG]]
        return found + [("never comes", year_chart(), FREE, ("a", "b", "c"))]

    def test_claims(self):
        for claim in self.told_claims():
            self.assertIs(is_claim(claim), True)
            self.assertIs(is_claim(value=claim), True)
        chart = Chart({"a": []})
        more = [("never behind", chart, FREE, "a", "a"), ("comes", chart, Family(1), ("a",)), ("fits", chart, 0),
                ("fits", chart, 40), ("too many", chart, 41), ("too many", chart, BIG), ("wished", ("a",), ()),
                ("unwished", tuple("fedcba"), [(Table(1), "f")] * 4), ("within", FREE, FREE)]
        for claim in more:
            self.assertIs(is_claim(claim), True)

    def test_no_claims(self):
        for value in self.no_claims():
            self.assertIs(is_claim(value), False, repr(value))
            self.assertFailsAlike(InvalidClaim, {"value": value}, paper, claim=value)
            self.assertFailsAlike(InvalidClaim, {"value": value}, is_paper, claim=value, value=None)
            self.assertFails(InvalidClaim, {"value": value}, is_paper, value, [])

    def test_nothing_changes(self):
        claims = self.told_claims()
        for claim in claims + [("within", Family(3, (1, -3)), Family(3, (1, -2))), ("unwished", ["a"], [])]:
            value = paper(claim)
            if isinstance(value, (list, dict)) or claim[0] == "never behind" and value is not None:
                self.assertNew(lambda: paper(claim))
            is_paper(claim, value)
            self.assertEqual(paper(claim), value)
        self.assertNew(lambda: paper(("never behind", year_chart(), FREE, "b", "c")))
        self.assertNew(lambda: paper(("cannot be", year_chart(), FREE, "d", "first")))
        self.assertNew(lambda: paper(("never comes", year_chart(), FREE, list("dcba"))))
        self.assertEqual(claims, self.told_claims())


if __name__ == "__main__":
    unittest.main()
