import operator
import unittest

from anypoints.charts import Chart
from anypoints.diaries import Diary, Trial, tried
from anypoints.errors import InvalidRace, InvalidSeason, NoRace, NoResult, OtherRiders, TooMany, UnknownRider
from anypoints.ratios import Ratio
from anypoints.seasons import Season
from anypoints.tables import Table
from tests.helpers import Case, no_names, no_races, no_seasons, seasons
from tests.test_seasons import TOO_MANY_RACES, YEAR, no_positions, year


class Stopped(Exception):
    pass


class Halted(BaseException):
    pass


def no_diaries():
    """Values that are no Diaries, of many kinds."""
    return [None, True, False, 0, 1, "a", [], ["a"], {}, year(), Season(["a"]), Chart({"a": []}), Table(1), Ratio(1),
            Diary, object()]


def no_seasons_for_a_diary():
    """Values that are no Seasons, a Diary among them."""
    return no_seasons() + [Diary(year())]


def put_by_sign(diary, race):
    diary += race
    return diary


def assign(diary, season):
    diary.season = season


class MakingTest(Case):
    def test_season(self):
        for season in seasons():
            diary = Diary(season)
            self.assertEqual(diary.season, season)
            self.assertIs(type(diary.season), Season)
            self.assertEqual(len(diary), len(season))
            self.assertEqual([diary[k] for k in range(len(diary))], season.races())
        self.assertEqual(Diary(season=year()).season, year())

    def test_no_season(self):
        for value in no_seasons_for_a_diary():
            self.assertFailsAlike(InvalidSeason, {"value": value}, Diary, season=value)

    def test_not_iterated(self):
        with self.assertRaises(TypeError):
            list(Diary(year()))

    def test_races_by_position(self):
        diary = Diary(year())
        for value in no_positions(3):
            self.assertFails(NoRace, {"value": value}, operator.getitem, diary, value)
        self.assertFails(NoRace, {"value": 0}, operator.getitem, Diary(Season(["a"])), 0)
        self.assertNew(lambda: diary[1])
        self.assertEqual(diary.season, year())


class DeedTest(Case):
    def setUp(self):
        self.diary = Diary(year())

    def fails(self, kind, values, call, **named):
        """Checks the error, and that it leaves the season as it was."""
        self.assertFailsAlike(kind, values, call, **named)
        self.assertEqual(self.diary.season, year())

    def test_put(self):
        self.assertIsNone(self.diary.put(["d", None, "a"]))
        self.assertIsNone(self.diary.put(race=()))
        self.assertEqual(self.diary.season.races(), [*YEAR, ["d", None, "a"], []])
        race = ["a"]
        self.diary.put(race)
        race.append("b")
        self.assertEqual(self.diary[5], ["a"])

    def test_put_wrong(self):
        for value in no_races() + [["e"], ["a", "z"]]:
            self.fails(InvalidRace, {"value": value}, self.diary.put, race=value)
            self.assertFails(InvalidRace, {"value": value}, put_by_sign, self.diary, value)
        full = Diary(Season(["a"], [[]] * 40))
        for call in [full.put, lambda race: put_by_sign(full, race)]:
            self.assertFails(InvalidRace, {"value": ["b"]}, call, ["b"])
            self.assertFails(TooMany, TOO_MANY_RACES, call, ["a"])
        self.assertEqual(full.season, Season(["a"], [[]] * 40))
        full.cut(0)
        full.put(["a"])
        self.assertEqual([len(full), full[39]], [40, ["a"]])

    def test_put_by_sign(self):
        diary = kept = self.diary
        diary += ["d"]
        self.assertIs(diary, kept)
        diary += ("c", None, "d")
        self.assertIs(diary, kept)
        self.assertEqual(kept.season.races(), [*YEAR, ["d"], ["c", None, "d"]])

    def test_replace(self):
        self.diary[1] = ["d", None, "a"]
        self.diary[0] = ()
        self.assertEqual(self.diary.season.races(), [[], ["d", None, "a"], ["a", "b"]])
        race = ["c"]
        self.diary[2] = race
        race.append("b")
        self.assertEqual(self.diary[2], ["c"])

    def test_replace_wrong(self):
        for value in no_positions(3):
            self.assertFails(NoRace, {"value": value}, operator.setitem, self.diary, value, ["a"])
            self.assertFails(NoRace, {"value": value}, operator.setitem, self.diary, value, None)
        for value in no_races() + [["e"], ["a", "z"]]:
            self.assertFails(InvalidRace, {"value": value}, operator.setitem, self.diary, 1, value)
        self.assertEqual(self.diary.season, year())

    def test_cut(self):
        self.assertIsNone(self.diary.cut(1))
        self.assertEqual(self.diary.season.races(), [["a", "b"], ["a", "b"]])
        self.assertIsNone(self.diary.cut(position=0))
        self.diary.cut(0)
        self.assertEqual(self.diary.season, Season(list("abcd")))
        self.assertFails(NoRace, {"value": 0}, self.diary.cut, 0)

    def test_cut_wrong(self):
        for value in no_positions(3):
            self.fails(NoRace, {"value": value}, self.diary.cut, position=value)

    def test_void(self):
        self.assertIsNone(self.diary.void("c", 1))
        self.assertIsNone(self.diary.void(rider="b", position=2))
        self.assertIsNone(self.diary.void("a", position=1))
        self.assertEqual(self.diary.season.races(), [["a", "b"], ["b", None, "d"], ["a"]])

    def test_void_wrong(self):
        for value in no_names() + ["z", "e"]:
            self.fails(UnknownRider, {"value": value}, self.diary.void, rider=value, position=1)
            self.assertFails(UnknownRider, {"value": value}, self.diary.void, value, None)
        for value in no_positions(3):
            self.fails(NoRace, {"value": value}, self.diary.void, rider="c", position=value)
        self.fails(NoResult, {"rider": "c", "position": 0}, self.diary.void, rider="c", position=0)

    def test_set_season(self):
        other = Season(list("dcba"), [["c"]])
        self.assertIsNone(self.diary.set_season(other))
        self.assertEqual(self.diary.season, other)
        self.diary.season = year()
        self.assertEqual(self.diary.season, year())
        self.assertIsNone(self.diary.set_season(season=other))
        self.assertEqual([len(self.diary), self.diary[0]], [1, ["c"]])

    def test_set_wrong_season(self):
        for value in no_seasons_for_a_diary():
            self.fails(InvalidSeason, {"value": value}, self.diary.set_season, season=value)
            self.assertFails(InvalidSeason, {"value": value}, assign, self.diary, value)
        for other in [Season(["a"]), Season(list("abce")), Season(list("abcde"), YEAR)]:
            told = {"one": year(), "other": other}
            self.fails(OtherRiders, told, self.diary.set_season, season=other)
            self.assertFails(OtherRiders, told, assign, self.diary, other)
            self.assertEqual(self.diary.season, year())

    def test_deeds_one_after_another(self):
        model = [list(race) for race in YEAR]
        for k in range(60):
            deed, position = k % 5, (7 * k) % len(model)
            if deed < 2:
                self.diary.put(["c", None, "a"][:1 + 2 * (k % 2)])
                model.append(["c", None, "a"][:1 + 2 * (k % 2)])
            elif deed == 2:
                self.diary[position] = [None] * (k % 5) + ["d"]
                model[position] = [None] * (k % 5) + ["d"]
            elif deed == 3:
                self.diary.cut(position)
                del model[position]
            elif "a" in model[position]:
                self.diary.void("a", position)
                model[position] = [other if other != "a" else None for other in model[position]]
                while model[position] and model[position][-1] is None:
                    model[position].pop()
            self.assertEqual(self.diary.season.races(), model)
            self.assertEqual(self.diary.season, Season(list("abcd"), model))
            self.assertEqual(len(self.diary), len(model))

    def test_what_was_told_stays(self):
        season, race, made_of = self.diary.season, self.diary[0], year()
        other = Diary(made_of)
        for diary in [self.diary, other]:
            diary.put(["a"])
            diary[0] = ["d"]
            diary.cut(1)
            diary.void("d", 0)
        self.assertEqual([season, race, made_of], [year(), ["a", "b"], year()])

    def test_told_races_can_be_changed(self):
        self.diary[0].append("c")
        self.diary.season[0].append("c")
        self.diary.season.races().clear()
        self.assertEqual(self.diary.season, year())

    def test_copy_and_diary_share_nothing(self):
        copied = self.diary.copy()
        self.assertIs(type(copied), Diary)
        self.assertIsNot(copied, self.diary)
        self.assertIsNot(self.diary.copy(), self.diary.copy())
        self.assertEqual(copied.season, year())
        copied.put(["d"])
        copied.void("a", 0)
        self.assertEqual(self.diary.season, year())
        again = copied.copy()
        self.diary.cut(0)
        self.diary[0] = []
        self.assertEqual(copied.season.races(), [[None, "b"], *YEAR[1:], ["d"]])
        copied.cut(0)
        self.assertEqual(again.season.races(), [[None, "b"], *YEAR[1:], ["d"]])

    def test_each_race(self):
        self.assertEqual(list(self.diary.each_race()), YEAR)
        self.assertEqual(list(Diary(Season(["a"])).each_race()), [])
        self.assertNew(lambda: list(self.diary.each_race()))
        found = self.diary.each_race()
        self.assertIs(iter(found), found)

    def test_each_race_while_races_are_put_in(self):
        found = []
        for race in self.diary.each_race():
            found.append(list(race))
            race.append("spoilt")
            self.diary.put(["d"])
            self.diary[0] = []
            if len(found) == 2:
                self.diary.cut(2)
        self.assertEqual(found, YEAR)
        self.assertEqual(self.diary.season.races(), [[], YEAR[1], ["d"], ["d"], ["d"]])

    def test_each_race_begins_with_the_iteration(self):
        told = self.diary.each_race()
        self.diary.put(["d"])
        self.assertEqual(next(told), ["a", "b"])
        self.diary.put(["c"])
        self.assertEqual(list(told), [*YEAR[1:], ["d"]])


class TrialTest(Case):
    def setUp(self):
        self.diary = Diary(year())

    def change(self, diary):
        diary.put(["d"])
        diary[0] = []
        diary.cut(1)
        diary.void("b", 1)
        diary.season = diary.season.with_race(["c"])
        return [[], ["a"], ["d"], ["c"]]

    def test_without_an_error(self):
        with Trial(self.diary) as name:
            self.assertIs(name, self.diary)
            wanted = self.change(name)
        self.assertEqual(self.diary.season.races(), wanted)
        with Trial(diary=self.diary):
            self.diary.cut(0)
        self.assertEqual(self.diary.season.races(), wanted[1:])

    def test_with_an_error(self):
        for error in [Stopped("x"), ValueError(), KeyError(1), TooMany("races", 40), Halted(), GeneratorExit()]:
            with self.assertRaises(type(error)) as caught:
                with Trial(self.diary) as name:
                    self.change(name)
                    raise error
            self.assertIs(caught.exception, error)
            self.assertEqual(self.diary.season, year())

    def test_with_an_error_of_the_diary(self):
        with self.assertRaises(NoRace):
            with Trial(self.diary) as name:
                self.change(name)
                name.cut(99)
        self.assertEqual(self.diary.season, year())

    def test_entered_later_than_made(self):
        trial = Trial(self.diary)
        self.diary.put(["d"])
        ahead = self.diary.season
        with self.assertRaises(Stopped):
            with trial:
                self.diary.cut(0)
                raise Stopped()
        self.assertEqual(self.diary.season, ahead)
        with trial:
            self.diary.cut(0)
        ahead = self.diary.season
        with self.assertRaises(Stopped):
            with trial:
                self.diary.cut(0)
                raise Stopped()
        self.assertEqual(self.diary.season, ahead)

    def test_left_in_other_ways(self):
        for _ in range(2):
            with Trial(self.diary) as name:
                name.put(["a"])
                continue
        self.assertEqual(self.diary.season.races(), [*YEAR, ["a"], ["a"]])

    def test_one_in_another(self):
        with Trial(self.diary) as name:
            name.put(["d"])
            with self.assertRaises(Stopped):
                with Trial(name):
                    name.put(["c"])
                    raise Stopped()
            self.assertEqual(name[3], ["d"])
        self.assertEqual(self.diary.season.races(), [*YEAR, ["d"]])

    def test_tried(self):
        self.assertEqual(tried(self.diary, self.change), [[], ["a"], ["d"], ["c"]])
        self.assertEqual(self.diary.season.races(), [[], ["a"], ["d"], ["c"]])
        self.assertIs(tried(diary=self.diary, deed=lambda diary: diary), self.diary)
        self.assertIsNone(tried(self.diary, lambda diary: diary.cut(0)))
        self.assertEqual(len(self.diary), 3)

    def test_tried_with_an_error(self):
        for error in [Stopped("x"), RuntimeError(), LookupError(), Halted()]:
            def deed(diary):
                self.change(diary)
                raise error
            with self.assertRaises(type(error)) as caught:
                tried(self.diary, deed)
            self.assertIs(caught.exception, error)
            self.assertEqual(self.diary.season, year())
        self.assertFails(UnknownRider, {"value": "z"}, tried, self.diary, lambda diary: diary.void("z", 0))

    def test_no_diary(self):
        done = []
        for value in no_diaries():
            self.assertFailsAlike(InvalidSeason, {"value": value}, Trial, diary=value)
            self.assertFailsAlike(InvalidSeason, {"value": value}, tried, diary=value, deed=done.append)
        self.assertEqual(done, [])


if __name__ == "__main__":
    unittest.main()
