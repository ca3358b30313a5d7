import operator
import unittest
from itertools import permutations, product

from anypoints.charts import Chart
from anypoints.diaries import Diary
from anypoints.errors import (InvalidNumber, InvalidRace, InvalidRaces, InvalidRiders, InvalidSeason, LastRider, NoRace,
                              NoResult, OtherRiders, TooMany, UnknownRider)
from anypoints.families import Family
from anypoints.ratios import Ratio
from anypoints.seasons import Season, is_race
from anypoints.tables import Table
from tests.helpers import BIG, Case, no_counts, no_integers, no_names, no_races, no_seasons, seasons

SIX = list("abcdef")
YEAR = [["a", "b"], ["b", "c", "d", "a"], ["a", "b"]]
TOO_MANY_RACES = {"what": "races", "limit": 40}
TOO_MANY_RIDERS = {"what": "riders", "limit": 6}


def year():
    return Season(["a", "b", "c", "d"], YEAR)


def no_positions(many):
    """Values that are no positions of so many races."""
    return no_integers() + [-1, many, many + 1, BIG, -BIG, slice(0, 1), "0", None]


def trimmed(race):
    """The race without what is None at its end."""
    return trimmed(race[:-1]) if race and race[-1] is None else race


class RaceTest(Case):
    def test_races(self):
        for value in [[], ["a"], ["zebra", "abcdefgh"], [None, "a"], [None] * 5 + ["a"], SIX, ["a", None, None, "b"],
                      (), ("a",), (None, "a", None, "b"), tuple(SIX)]:
            self.assertIs(is_race(value), True, value)
            self.assertIs(is_race(value=value), True)

    def test_no_races(self):
        for value in no_races():
            self.assertIs(is_race(value), False, repr(value))


class MakingTest(Case):
    def test_told_ones(self):
        self.assertEqual(year().riders(), ["a", "b", "c", "d"])
        self.assertEqual(year().races(), YEAR)
        self.assertEqual(len(year()), 3)
        self.assertEqual([Season(["a"]).races(), len(Season(["a"]))], [[], 0])
        self.assertEqual(Season(riders=("b", "a"), races=((), ("b", None, "a"))).races(), [[], ["b", None, "a"]])
        self.assertEqual([type(race) for race in Season(["a"], (("a",), ())).races()], [list, list])

    def test_riders_in_any_sequence(self):
        for riders in permutations(["d", "c", "a", "b"]):
            found = Season(list(riders), YEAR)
            self.assertEqual(found.riders(), ["a", "b", "c", "d"])
            self.assertEqual(repr(found), repr(year()))
            self.assertTrue(found == year())

    def test_wrong_riders(self):
        for value in [None, True, 0, 1, "a", "ab", b"ab", {}, {"a": 1}, {"a"}, range(2), iter(["a"]), [], (), Ratio(1),
                      Season(["a"]), Chart({"a": []}), object()]:
            self.assertFailsAlike(InvalidRiders, {"position": None}, Season, riders=value, races=[])
            self.assertFails(InvalidRiders, {"position": None}, Season, value, None)
            self.assertFails(InvalidRiders, {"position": None}, Season, value)
        for value in no_names() + ["a", "b"]:
            self.assertFailsAlike(InvalidRiders, {"position": 2}, Season, riders=["a", "b", value], races=[])
            self.assertFails(InvalidRiders, {"position": 2}, Season, ("a", "b", value, None, "a"), 5)
            self.assertFails(InvalidRiders, {"position": 7}, Season, [*SIX, "g", value] + ["g"] * (value in ["a", "b"]))
        for value in no_names():
            self.assertFails(InvalidRiders, {"position": 0}, Season, [value, "a", "a"])

    def test_wrong_races(self):
        for value in [None, True, 0, "", "a", b"", {}, {0: ["a"]}, {"a"}, range(0), iter([]), Ratio(1), year(),
                      object()]:
            self.assertFailsAlike(InvalidRaces, {"position": None}, Season, riders=["a"], races=value)
            self.assertFails(InvalidRaces, {"position": None}, Season, [*SIX, "g"], value)
        for value in no_races() + [["z"], ["b", "z"], [None, "aa"]]:
            self.assertFailsAlike(InvalidRaces, {"position": 0}, Season, riders=SIX, races=[value])
            self.assertFails(InvalidRaces, {"position": 2}, Season, SIX, [[], ["a"], value, value, None])
            self.assertFails(InvalidRaces, {"position": 41}, Season, SIX, (*[["a"]] * 41, value))
            self.assertFails(InvalidRaces, {"position": 1}, Season, [*SIX, "g"], [["g"], value] + [[]] * 60)

    def test_too_many(self):
        self.assertEqual([Season.MOST_RIDERS, Season.MOST_RACES], [6, 40])
        self.assertEqual(Season(SIX).riders(), SIX)
        self.assertEqual(len(Season(SIX, [["a"]] * 40)), 40)
        self.assertFails(TooMany, TOO_MANY_RIDERS, Season, [*SIX, "g"])
        self.assertFails(TooMany, TOO_MANY_RIDERS, Season, [*SIX, "g"], [["g"]] * 41)
        self.assertFails(TooMany, TOO_MANY_RIDERS, Season, [chr(97 + k) for k in range(26)], [])
        self.assertFails(TooMany, TOO_MANY_RACES, Season, SIX, [["a"]] * 41)
        self.assertFails(TooMany, TOO_MANY_RACES, Season, ["a"], [[]] * 41)
        self.assertFails(TooMany, TOO_MANY_RACES, Season, ["a"], ((),) * 300)

    def test_what_is_passed_is_copied(self):
        riders, races = ["b", "a"], [["a"], ["b", "a"]]
        found = Season(riders, races)
        riders.append("c")
        races[0].append("b")
        races.pop()
        self.assertEqual(repr(found), "Season(['a', 'b'], [['a'], ['b', 'a']])")
        self.assertEqual([riders, races], [["b", "a", "c"], [["a", "b"]]])

    def test_equal(self):
        self.assertTrue(year() == Season(("d", "c", "b", "a"), tuple(tuple(race) for race in YEAR)))
        self.assertFalse(year() != year())
        self.assertFalse(year() == Season(list("abcde"), YEAR))
        self.assertFalse(year() == Season(list("abcd"), YEAR[::-1][1:]))
        self.assertFalse(year() == Season(list("abcd"), [YEAR[1], YEAR[0], YEAR[2]]))
        self.assertFalse(year() == Season(list("abcd"), YEAR + [[]]))
        self.assertFalse(Season(["a", "b"], [["a", "b"]]) == Season(["a", "b"], [["a", None, "b"]]))
        for value in no_seasons():
            self.assertFalse(Season(["a"]) == value)
            self.assertFalse(value == Season(["a"]))
            self.assertTrue(Season(["a"]) != value)

    def test_repr(self):
        self.assertEqual(repr(Season(("b", "a"), [("a", None, "b"), ()])), "Season(['a', 'b'], [['a', None, 'b'], []])")
        self.assertEqual(repr(Season(["a"])), "Season(['a'], [])")
        for season in seasons():
            self.assertEqual(eval(repr(season)), season)


class AskingTest(Case):
    def test_races_by_position(self):
        for season in seasons():
            self.assertEqual([season[k] for k in range(len(season))], season.races())
            self.assertEqual([type(season[k]) for k in range(len(season))], [list] * len(season))
        for value in no_positions(3):
            self.assertFails(NoRace, {"value": value}, operator.getitem, year(), value)
        self.assertFails(NoRace, {"value": 0}, operator.getitem, Season(["a"]), 0)
        with self.assertRaises(TypeError):
            list(year())

    def test_in(self):
        self.assertEqual([name in year() for name in ["a", "d", "e", "z", "aa"]], [True, True, False, False, False])
        for value in no_names() + [0, ["a", "b"], YEAR[0], Diary(year()), Table]:
            self.assertIs(value in year(), False)

    def test_places(self):
        self.assertEqual([year().places(rider) for rider in "abcd"],
                         [[1, 4, 1], [2, 1, 2], [None, 2, None], [None, 3, None]])
        self.assertEqual(Season(SIX, [SIX]).places("f"), [6])
        self.assertEqual(Season(["a"]).places("a"), [])
        for season in seasons():
            for rider in season.riders():
                wanted = [(race.index(rider) + 1 if rider in race else None) for race in season.races()]
                self.assertEqual(season.places(rider=rider), wanted)
                for k in range(len(season)):
                    self.assertEqual(season.place(rider, k), wanted[k])
                    self.assertEqual(season.place(rider=rider, position=k), wanted[k])

    def test_wrong_asking(self):
        for value in no_names() + ["z", "e", "aa"]:
            self.assertFailsAlike(UnknownRider, {"value": value}, year().place, rider=value, position=0)
            self.assertFails(UnknownRider, {"value": value}, year().place, value, -1)
            self.assertFailsAlike(UnknownRider, {"value": value}, year().places, rider=value)
            self.assertFailsAlike(UnknownRider, {"value": value}, Season(["a"]).places, rider=value)
        for value in no_positions(3):
            self.assertFailsAlike(NoRace, {"value": value}, year().place, rider="a", position=value)


class SumsTest(Case):
    def test_add(self):
        for one, other in product(seasons()[:12], seasons()[:12]):
            before = repr([one, other])
            if one.riders() != other.riders():
                self.assertFails(OtherRiders, {"one": one, "other": other}, operator.add, one, other)
            else:
                self.assertEqual((one + other).races(), one.races() + other.races())
                self.assertEqual((one + other).riders(), one.riders())
            self.assertEqual(repr([one, other]), before)
        for value in no_seasons():
            self.assertFails(InvalidSeason, {"value": value}, operator.add, year(), value)

    def test_add_too_many(self):
        half, rest = Season(["a"], [["a"]] * 20), Season(["a"], [[]] * 21)
        self.assertEqual(len(half + half), 40)
        self.assertFails(TooMany, TOO_MANY_RACES, operator.add, half, rest)
        many, others = Season(["a"], [[]] * 40), Season(["b"], [[]] * 40)
        self.assertFails(OtherRiders, {"one": many, "other": others}, operator.add, many, others)
        self.assertEqual([len(half), len(rest), len(many)], [20, 21, 40])

    def test_multiply(self):
        for season in seasons():
            for many in range(5):
                self.assertEqual((season * many).races(), season.races() * many)
                self.assertEqual(many * season, season * many)
                self.assertEqual((season * many).riders(), season.riders())
        self.assertEqual(Season(["a"], [["a"]]) * 40, Season(["a"], [["a"]] * 40))
        self.assertEqual(Season(["a"], [[], ["a"]]) * 0, Season(["a"]))

    def test_multiply_too_often(self):
        one, three = Season(["a"], [["a"]]), year()
        for season, many in [(one, 41), (three, 14), (one, BIG), (three, BIG), (Season(["a"], [[]] * 40), 2)]:
            self.assertFails(TooMany, TOO_MANY_RACES, operator.mul, season, many)
            self.assertFails(TooMany, TOO_MANY_RACES, operator.mul, many, season)
        self.assertEqual(len(three * 13), 39)
        self.assertEqual([one, three], [Season(["a"], [["a"]]), year()])

    def test_multiply_without_races(self):
        empty = Season(["a", "b"])
        for many in [0, 1, 2, 40, 41, 10 ** 18, BIG]:
            self.assertEqual(empty * many, empty)
            self.assertEqual(many * empty, empty)

    def test_multiply_by_wrong_values(self):
        for season in [year(), Season(["a"])]:
            for value in no_counts() + [season, Chart({"a": []}), Diary(season)]:
                self.assertFails(InvalidNumber, {"value": value}, operator.mul, season, value)
            for value in [-1, -BIG, True, False]:
                self.assertFails(InvalidNumber, {"value": value}, operator.mul, value, season)

    def test_other_kinds_on_the_left(self):
        self.assertFails(InvalidNumber, {"value": year()}, operator.mul, Ratio(2), year())
        self.assertFails(InvalidNumber, {"value": year()}, operator.mul, Table(2), year())
        for value in [1, None, "a", [], [["a"]], (), {}]:
            with self.assertRaises(TypeError):
                value + year()

    def test_products_share_nothing(self):
        found = Season(["a"], [["a"]]) * 3
        self.assertNew(found.races)
        self.assertNew(lambda: (year() + year()).races())


class ChangingTest(Case):
    def test_with_race(self):
        for season in seasons():
            for race in [[], ["b"], ("a", None, "b"), [None] * 5 + ["a"]]:
                found = season.with_race(race)
                self.assertEqual(found.races(), season.races() + [list(race)])
                self.assertEqual(found.riders(), season.riders())
        self.assertEqual(year().with_race(race=["d"])[3], ["d"])
        race = ["a"]
        found = year().with_race(race)
        race.append("b")
        self.assertEqual(found[3], ["a"])

    def test_with_wrong_race(self):
        full = Season(list("abcd"), [[]] * 40)
        for value in no_races() + [["e"], ["a", "z"], ["a", None, "aa"]]:
            for season in [year(), full]:
                self.assertFailsAlike(InvalidRace, {"value": value}, season.with_race, race=value)
        self.assertFails(TooMany, TOO_MANY_RACES, full.with_race, ["a"])
        self.assertFails(TooMany, TOO_MANY_RACES, full.with_race, [])
        self.assertEqual(len(full.without_race(0).with_race(["a"])), 40)

    def test_without_race(self):
        for season in seasons():
            for k in range(len(season)):
                self.assertEqual(season.without_race(k).races(), season.races()[:k] + season.races()[k + 1:])
                self.assertEqual(season.without_race(position=k).riders(), season.riders())
        for value in no_positions(3):
            self.assertFailsAlike(NoRace, {"value": value}, year().without_race, position=value)
        self.assertFails(NoRace, {"value": 0}, Season(["a"]).without_race, 0)

    def test_struck(self):
        self.assertEqual(year().struck("b").races(), [["a"], ["c", "d", "a"], ["a"]])
        self.assertEqual(year().struck(rider="a").races(), [["b"], ["b", "c", "d"], ["b"]])
        held = Season(["a", "b", "c"], [["a", None, "b"], [None, "b", "c"], ["b", None, None, "a"], [], ["b"],
                                        [None, None, "b"], ["c", None, "a", None, None, "b"]])
        self.assertEqual(held.struck("b").races(), [["a"], [None, "c"], [None, None, "a"], [], [], [],
                                                    ["c", None, "a"]])
        self.assertEqual(held.struck("a").races(), [[None, "b"], [None, "b", "c"], ["b"], [], ["b"], [None, None, "b"],
                                                    ["c", None, None, None, "b"]])
        self.assertEqual(held.struck("a").riders(), ["b", "c"])

    def test_struck_by_places(self):
        for season in seasons():
            for rider in season.riders():
                if len(season.riders()) == 1:
                    continue
                found = season.struck(rider)
                self.assertEqual(found.riders(), [other for other in season.riders() if other != rider])
                self.assertEqual(len(found), len(season))
                self.assertEqual(Season(found.riders(), found.races()), found)
                for other, k in product(found.riders(), range(len(season))):
                    ahead, place = season.place(rider, k), season.place(other, k)
                    moved = place is not None and ahead is not None and ahead < place
                    self.assertEqual(found.place(other, k), place - 1 if moved else place)

    def test_struck_errors(self):
        for season in [year(), Season(["b"], [["b"]])]:
            for value in no_names() + ["z", "e", "aa"]:
                self.assertFailsAlike(UnknownRider, {"value": value}, season.struck, rider=value)
        self.assertFailsAlike(LastRider, {"value": "b"}, Season(["b"], [["b"]]).struck, rider="b")
        self.assertFails(LastRider, {"value": "b"}, Season(["a", "b"], [["b"]]).struck("a").struck, "b")

    def test_voided(self):
        self.assertEqual(year().voided("c", 1)[1], ["b", None, "d", "a"])
        self.assertEqual(year().voided(rider="a", position=1)[1], ["b", "c", "d"])
        self.assertEqual(Season(["a", "b"], [["a", None, "b"]]).voided("b", 0)[0], ["a"])
        self.assertEqual(Season(["a", "b"], [["a", None, "b"]]).voided("a", 0)[0], [None, None, "b"])
        self.assertEqual(Season(["a"], [[None, None, "a"]]).voided("a", 0)[0], [])
        for season in seasons():
            for rider, k in product(season.riders(), range(len(season))):
                if season.place(rider, k) is None:
                    self.assertFailsAlike(NoResult, {"rider": rider, "position": k}, season.voided, rider=rider,
                                          position=k)
                    continue
                races = season.races()
                races[k] = trimmed([None if other == rider else other for other in races[k]])
                self.assertEqual(season.voided(rider, k).races(), races)
                self.assertEqual(season.voided(rider, k).riders(), season.riders())

    def test_voided_errors(self):
        for value in no_names() + ["z", "e", "aa"]:
            self.assertFailsAlike(UnknownRider, {"value": value}, year().voided, rider=value, position=0)
            self.assertFails(UnknownRider, {"value": value}, year().voided, value, True)
        for value in no_positions(3):
            self.assertFailsAlike(NoRace, {"value": value}, year().voided, rider="c", position=value)
        self.assertFails(NoResult, {"rider": "c", "position": 0}, year().voided, "c", 0)
        self.assertFails(NoResult, {"rider": "c", "position": 1}, year().voided("c", 1).voided, "c", 1)


class StayingTest(Case):
    def test_returned_lists_are_new(self):
        found = year()
        for call in [found.riders, found.races, lambda: found[1], lambda: found.places("a"), found.struck("b").races,
                     found.with_race(["a"]).races, found.without_race(0).races, found.voided("a", 0).races]:
            self.assertNew(call)
        self.assertEqual(found, year())

    def test_nothing_changes(self):
        found, other = year(), Season(["a"])
        for call in [lambda: found[3], lambda: found + other, lambda: found + 1, lambda: found * -1, lambda: found * 14,
                     lambda: found.with_race(["z"]), lambda: found.without_race(-1), lambda: found.struck("z"),
                     lambda: found.voided("c", 0), lambda: found.voided("c", 5), lambda: found.place("z", 0),
                     lambda: found.places(0)]:
            with self.assertRaises((ValueError, LookupError, RuntimeError, ArithmeticError)):
                call()
        for call in [lambda: found + found, lambda: found * 2, lambda: 2 * found, lambda: found.with_race(["a"]),
                     lambda: found.without_race(0), lambda: found.struck("b"), lambda: found.voided("a", 0)]:
            self.assertEqual(call(), call())
            self.assertIs(type(call()), Season)
        self.assertEqual(repr(found), repr(year()))
        self.assertEqual(found.races(), YEAR)

    def test_of_no_other_kind(self):
        self.assertFails(InvalidSeason, {"value": Family(1)}, operator.add, year(), Family(1))


if __name__ == "__main__":
    unittest.main()
