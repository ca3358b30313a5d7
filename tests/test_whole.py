"""The guarantees of the document, over the whole program: from a desk and a text to papers."""

import random
import unittest
from itertools import product

from anypoints.charts import chart_of
from anypoints.desk import Desk
from anypoints.families import Family
from anypoints.judge import is_paper, paper
from anypoints.leads import is_sure, relation
from anypoints.mixes import ENDS
from anypoints.orders import all_orders
from anypoints.planes import Plane
from anypoints.rounds import does_fit, season_of
from anypoints.seasons import Season
from anypoints.standings import standing
from anypoints.texts import family_text, read_family, read_season, season_text
from anypoints.winners import all_who
from tests.helpers import Case, drawn_season, inside, points, sign, some_families
from tests.test_judge import CONTRARY, own_judge

# What a relation says of the points by each table: fewer, as many, more.
MEANINGS = {"level": {0}, "ahead": {1}, "behind": {-1}, "never behind": {0, 1}, "never ahead": {-1, 0},
            "open": {-1, 0, 1}}


def drawn_seasons(seed, many):
    draw = random.Random(seed)
    return [drawn_season(draw, list("abcd")[:draw.randint(1, 4)], draw.randint(0, 8)) for _ in range(many)]


class GuaranteesTest(Case):
    def test_every_table(self):
        for family in some_families():
            tables = inside(family)[::3]
            for season in drawn_seasons(181, 6):
                chart = chart_of(season)
                firsts, lasts = all_who(chart, family, "first"), all_who(chart, family, "last")
                orders = list(all_orders(chart, family))
                for table in tables:
                    told = {rider: points(chart, table, rider) for rider in chart.riders()}
                    for one, other in product(told, told):
                        self.assertIn(sign(told[one] - told[other]), MEANINGS[relation(chart, family, one, other)])
                    lists = standing(chart, table)
                    self.assertTrue(set(lists[0]) <= set(firsts))
                    self.assertTrue(set(lists[-1]) <= set(lasts))
                    if len(lists) == len(told):
                        self.assertIn(sum(lists, []), orders)
                    if family.paid <= 3:
                        first, second, third = table.points()[:3]
                        point = (second.over(first), third.over(first))
                        self.assertEqual(Plane(chart, family).leaders(point), lists[0])

    def test_sure(self):
        draw = random.Random(182)
        found = [0, 0]
        for family in some_families()[::2]:
            for season in drawn_seasons(183, 5):
                riders, left = season.riders(), draw.randint(0, 2)
                for rider in riders:
                    more = [drawn_season(draw, riders, left) for _ in range(3)]
                    more += [Season(riders, [[rival]] * left) for rival in riders if rival != rider]
                    behind = False
                    for chart in [chart_of(season + races) for races in more]:
                        for table in family.corners():
                            own = points(chart, table, rider)
                            behind = behind or any(points(chart, table, rival) > own for rival in riders)
                    self.assertIs(is_sure(chart_of(season), family, rider, left), not behind)
                    found[behind] += 1
        self.assertGreater(min(found), 30)

    def test_races(self):
        for season in drawn_seasons(184, 60):
            chart = chart_of(season)
            for many in range(len(season) + 2):
                if does_fit(chart, many):
                    self.assertEqual(chart_of(season_of(chart, many)), chart)
                else:
                    self.assertLess(many, len(season))

    def test_both_ways(self):
        for family, season in zip(some_families(), drawn_seasons(185, 20)):
            chart = chart_of(season)
            pairs = product(season.riders(), season.riders())
            claims = [("never behind", chart, family, one, other) for one, other in pairs]
            claims += [("can be", chart, family, rider, end) for rider in season.riders() for end in ENDS]
            claims += [("comes", chart, family, order) for order in [season.riders(), season.riders()[::-1]]]
            claims += [("within", family, other) for other in some_families()]
            claims += [("fits", chart, many) for many in range(len(season) + 1)]
            claims += [("wished", season.riders(), list(zip(inside(family)[:4], season.riders())))]
            for claim in claims:
                against = (CONTRARY[claim[0]], *claim[1:])
                true, untrue = (claim, against) if paper(against) is None else (against, claim)
                self.assertIsNone(paper(untrue))
                self.assertTrue(own_judge(true, paper(true)))
                self.assertIs(is_paper(true, paper(true)), True)
                self.assertIs(is_paper(untrue, paper(true)), False)


class TogetherTest(Case):
    def test_from_a_desk_to_a_text_and_back(self):
        for season in drawn_seasons(186, 30):
            desk = Desk()
            desk.do("season s " + " ".join(season.riders()))
            for race in season.races():
                desk.do(" ".join(["race s"] + ["-" if rider is None else rider for rider in race]))
            text = season_text(desk.diary("s").season)
            self.assertEqual(read_season(text), season)
            self.assertEqual(desk.do("undo" if len(season) else "drop s"), ["done"])
            self.assertEqual(season_text(season), text)

    def test_nothing_that_is_passed_changes(self):
        for family, season in zip(some_families(), drawn_seasons(187, 20)):
            chart, before = chart_of(season), [repr(value) for value in (season, family, chart_of(season))]
            for rider, end in product(season.riders(), ENDS):
                paper(("can be", chart, family, rider, end))
                paper(("cannot be", chart, family, rider, end))
            paper(("within", family, Family.shrinking(3)))
            paper(("never comes", chart, family, season.riders()))
            list(all_orders(chart, family))
            season_of(chart, len(season))
            self.assertEqual(read_family(family_text(family)), family)
            self.assertEqual([repr(value) for value in (season, family, chart)], before)


if __name__ == "__main__":
    unittest.main()
