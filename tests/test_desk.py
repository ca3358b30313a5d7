import random
import unittest

from anypoints.charts import chart_of
from anypoints.desk import Desk
from anypoints.diaries import Diary
from anypoints.errors import (CommandFailed, InvalidCommand, InvalidNumber, InvalidPoints, InvalidRace, InvalidRiders,
                              NameTaken, NoRace, NoResult, NothingToUndo, TooMany, UnknownName, UnknownRider)
from anypoints.families import Family
from anypoints.leads import is_sure, relation
from anypoints.ratios import Ratio
from anypoints.seasons import Season
from anypoints.standings import points_of, standing
from anypoints.tables import Table
from anypoints.winners import all_who
from tests.helpers import BIG, Case, drawn_season, no_names

STARTED = ["season y d c b a", "race y a b", "race y b c d a", "race y a b", "table t 3 2 1", "season empty z",
           "table steep 25 18 15 12 10"]

# For each command one that is right on a started desk.
RIGHT = ["season new a b", "race y b - a", "void y b 1", "table news 3 1/2", "drop t", "undo", "standing y t",
         "points y t a", "relation y a b all 5", "firsts y all 5", "sure y b 1 doubling 3"]

FAMILIES = [(f"{word} {k}", make(k)) for k in range(1, 6)
            for word, make in [("all", Family), ("shrinking", Family.shrinking), ("doubling", Family.doubling)]]


def year():
    return Season(list("abcd"), [["a", "b"], ["b", "c", "d", "a"], ["a", "b"]])


def started():
    desk = Desk()
    desk.do(*STARTED)
    return desk


def state(desk):
    """All that can be asked for of the desk."""
    found = {}
    for name in desk.names():
        try:
            found[name] = desk.diary(name).season
        except UnknownName:
            # The points of a table are those of riders who were at each place once.
            asked = [f"points probe {name} {rider}" for rider in "abcde"]
            found[name] = desk.do("season probe a b c d e", "race probe a b c d e", *asked, "undo", "undo")
    return [found, desk.log(), desk.names()]


class DeskCase(Case):
    def assertCommandFails(self, desk, position, kind, values, *commands):
        """Checks that the command at the position fails by this error, and that nothing is done."""
        before = state(desk)
        with self.assertRaises(CommandFailed) as caught:
            desk.do(*commands)
        failed = caught.exception
        self.assertIs(type(failed), CommandFailed)
        self.assertEqual(vars(failed), {"position": position})
        self.assertIs(type(failed.position), int)
        self.assertIs(type(failed.__cause__), kind, commands)
        self.assertEqual(vars(failed.__cause__), values)
        for name, value in values.items():
            self.assertIs(type(getattr(failed.__cause__, name)), type(value))
        self.assertEqual(state(desk), before)

    def assertFailsEverywhere(self, kind, values, command):
        """Checks the error of the command alone and behind others, on a desk of its own each time."""
        self.assertCommandFails(started(), 0, kind, values, command)
        self.assertCommandFails(started(), 2, kind, values, "season other q", "standing y t", command, "undo")
        self.assertCommandFails(started(), 1, kind, values, "race y d", command, command, "none")

    def assertSeason(self, desk, name, riders, races):
        self.assertEqual(desk.diary(name).season, Season(riders, races))


class CommandTest(DeskCase):
    def test_of_the_document(self):
        told = Desk().do("season y a b", "race y a b", "race y b - a", "table t 3 2 1", "standing y t",
                         "relation y a b all 5", "undo")
        self.assertEqual(told, ["done", "done", "done", "done", "b a", "never ahead", "done"])

    def test_answers_are_strings_in_a_list(self):
        told = started().do(*RIGHT[6:], *RIGHT[:6])
        self.assertIs(type(told), list)
        self.assertEqual({type(answer) for answer in told}, {str})
        self.assertEqual(told, ["b a c d", "6", "open", "a b", "no"] + ["done"] * 6)
        self.assertEqual(Desk().do(), [])
        self.assertEqual(started().do(), [])

    def test_season(self):
        desk = Desk()
        self.assertEqual(desk.do("season y b a", "season longname abcdefgh"), ["done", "done"])
        self.assertSeason(desk, "y", ["a", "b"], [])
        self.assertSeason(desk, "longname", ["abcdefgh"], [])
        self.assertEqual(desk.do("season six f e d c b a"), ["done"])
        self.assertSeason(desk, "six", list("abcdef"), [])
        self.assertEqual(desk.names(), ["longname", "six", "y"])

    def test_race(self):
        desk = started()
        self.assertEqual(desk.do("race y", "race y d", "race y - - c", "race y - - - - - d"), ["done"] * 4)
        self.assertSeason(desk, "y", list("abcd"),
                          year().races() + [[], ["d"], [None, None, "c"], [None] * 5 + ["d"]])
        self.assertEqual(desk.diary("empty").season, Season(["z"]))

    def test_void(self):
        desk = started()
        self.assertEqual(desk.do("void y c 2", "void y b 3"), ["done", "done"])
        self.assertSeason(desk, "y", list("abcd"), [["a", "b"], ["b", None, "d", "a"], ["a"]])

    def test_table(self):
        desk = started()
        told = [("3", ["3", "0"]), ("3 2", ["3", "2"]), ("1/2 1/3", ["1/2", "1/3"]), ("5 4 3 2 1", ["5", "4"]),
                ("7 0", ["7", "0"]), ("7 0 0 0 0", ["7", "0"]), (f"{BIG}/8 1/{BIG}", [f"{BIG}/8", f"1/{BIG}"]),
                ("2 2 2 2 2", ["2", "2"]), (f"{BIG} {BIG - 1}", [str(BIG), str(BIG - 1)])]
        desk.do("season one a b", "race one a b")
        for words, wanted in told:
            found = desk.do("table new " + words, "points one new a", "points one new b", "drop new")
            self.assertEqual(found, ["done", *wanted, "done"])

    def test_drop(self):
        desk = started()
        self.assertEqual(desk.do("drop y", "drop t", "season t a", "table y 1"), ["done"] * 4)
        self.assertEqual(desk.names(), ["empty", "steep", "t", "y"])
        self.assertSeason(desk, "t", ["a"], [])
        self.assertEqual(desk.do("race t a", "points t y a"), ["done", "1"])

    def test_standing(self):
        desk = started()
        told = desk.do("standing y t", "standing y steep", "standing empty t", "table flat 1 1 1 1", "standing y flat",
                       "table first 1", "standing y first", "table two 1 1", "standing y two")
        self.assertEqual(told, ["b a c d", "a b c d", "z", "done", "a=b c=d", "done", "a b c=d", "done", "b a c d"])

    def test_points(self):
        told = started().do("points y t a", "points y t b", "points y t d", "points y steep c", "points empty t z",
                            "table half 1/2 1/3", "points y half b", "points y half c")
        self.assertEqual(told, ["6", "7", "1", "18", "0", "done", "7/6", "1/3"])

    def test_relation_firsts_and_sure(self):
        desk = started()
        told = desk.do("relation y a b all 5", "relation y b a all 1", "relation y a a all 1", "relation y b d all 5",
                       "relation y d b shrinking 2", "relation y c d all 3", "firsts y all 5", "firsts y all 1",
                       "firsts empty all 1", "sure y b 0 all 1", "sure y a 0 all 1", "sure y a 1 all 1",
                       "sure y a 2 all 1", "sure empty z 7 all 5", "sure empty z 0 doubling 5")
        self.assertEqual(told, ["open", "behind", "level", "ahead", "behind", "never behind", "a b", "a", "z", "no",
                                "yes", "yes", "no", "yes", "yes"])

    def test_against_the_other_files(self):
        draw = random.Random(171)
        for many in range(1, 16):
            riders = list("abcdef"[:draw.randint(1, 6)])
            season = drawn_season(draw, riders, many)
            points = sorted([Ratio(draw.randint(0, 9), draw.randint(1, 4)) for _ in range(5)],
                            key=lambda point: point.top / point.bottom, reverse=True)
            table = Table(points[0] + 1, *points[1:])
            desk = Desk()
            desk.do("season s " + " ".join(riders), "table p " + " ".join(str(point) for point in table.points()))
            desk.do(*["race s " + " ".join(rider or "-" for rider in race) if race else "race s"
                      for race in season.races()])
            self.assertEqual(desk.diary("s").season, season)
            chart = chart_of(season)
            self.assertEqual(desk.do("standing s p"), [" ".join("=".join(told) for told in standing(chart, table))])
            for rider in riders:
                other, left = draw.choice(riders), draw.randint(0, 3)
                self.assertEqual(desk.do(f"points s p {rider}"), [str(points_of(chart, table, rider))])
                for words, family in FAMILIES:
                    self.assertEqual(desk.do(f"relation s {rider} {other} {words}"),
                                     [relation(chart, family, rider, other)])
                    self.assertEqual(desk.do(f"sure s {rider} {left} {words}"),
                                     ["yes" if is_sure(chart, family, rider, left) else "no"])
            for words, family in FAMILIES:
                self.assertEqual(desk.do("firsts s " + words), [" ".join(all_who(chart, family, "first"))])


class UndoTest(DeskCase):
    def test_one_by_one(self):
        desk = Desk()
        commands = [*STARTED, *RIGHT[:5], "drop y", "season t a", "drop t", "table y 1", "drop empty"]
        states = []
        for command in commands:
            states.append(state(desk))
            self.assertEqual(desk.do(command), ["done"])
            self.assertEqual(desk.do("undo"), ["done"])
            self.assertEqual(state(desk), states[-1])
            desk.do(command)
        for k, before in reversed(list(enumerate(states))):
            self.assertEqual(desk.log(), commands[:k + 1])
            self.assertEqual(desk.do("undo"), ["done"])
            self.assertEqual(state(desk), before)
        self.assertEqual(state(desk), state(Desk()))
        self.assertCommandFails(desk, 0, NothingToUndo, {}, "undo")
        self.assertCommandFails(desk, 2, NothingToUndo, {}, "season y a", "undo", "undo")

    def test_undo_is_not_taken_back(self):
        desk = started()
        desk.do("race y d", "undo", "undo")
        self.assertEqual(desk.names(), ["empty", "t", "y"])
        self.assertEqual(desk.log(), STARTED[:-1])
        self.assertEqual(desk.do("race y d", "undo", "race y c", "undo", "undo"), ["done"] * 5)
        self.assertEqual(desk.log(), STARTED[:-2])
        self.assertEqual(desk.diary("y").season, year())

    def test_questions_are_not_taken_back(self):
        desk = started()
        desk.do(*RIGHT[6:], "void y a 1", *RIGHT[6:], "undo", *RIGHT[6:])
        self.assertEqual([desk.log(), desk.diary("y").season], [STARTED, year()])

    def test_drop_taken_back(self):
        desk = started()
        desk.do("race y - d", "drop y", "drop t")
        self.assertEqual(desk.names(), ["empty", "steep"])
        desk.do("undo", "undo")
        self.assertEqual(desk.diary("y").season, year().with_race([None, "d"]))
        self.assertEqual(desk.do("standing y t"), ["b a d c"])
        desk.do("drop y", "season y q", "undo", "undo", "undo")
        self.assertEqual([desk.diary("y").season, desk.log()], [year(), STARTED])

    def test_taken_back_before_an_error(self):
        desk = started()
        self.assertCommandFails(desk, 3, UnknownName, {"value": "t"}, "undo", "undo", "undo", "standing y t")
        self.assertCommandFails(desk, len(STARTED), NothingToUndo, {}, *["undo"] * 9)
        self.assertEqual(desk.do(*["undo"] * len(STARTED)), ["done"] * len(STARTED))


class AllOrNoneTest(DeskCase):
    def test_first_error_decides(self):
        desk = started()
        for k in range(len(RIGHT) + 1):
            commands = [*RIGHT[:k], "race q a", "none", *RIGHT[k:]]
            self.assertCommandFails(desk, k, UnknownName, {"value": "q"}, *commands)
        self.assertCommandFails(desk, 1, InvalidCommand, {"value": "none"}, "drop y", "none", "race q a")

    def test_nothing_is_done(self):
        desk = Desk()
        for commands in [["season y a", "race y a", "void y a 2"], ["season y a", "table y 1"], ["undo"],
                         ["season y a", "drop y", "drop y"]]:
            with self.assertRaises(CommandFailed):
                desk.do(*commands)
            self.assertEqual([desk.names(), desk.log()], [[], []])
        self.assertEqual(desk.do("season y a"), ["done"])

    def test_desks_are_apart(self):
        one, other = started(), Desk()
        other.do("season y q")
        one.do("race y d")
        self.assertSeason(other, "y", ["q"], [])
        self.assertEqual(other.log(), ["season y q"])


class NamesTest(DeskCase):
    def test_taken(self):
        for command, name in [("season y a", "y"), ("season t a", "t"), ("table t 1", "t"), ("table y 1", "y"),
                              ("season y a a", "y"), ("season t a b c d e f g", "t"), ("table y 1 2", "y"),
                              ("table t 0", "t"), ("table t 1 1 1 1 1 1", "t")]:
            self.assertFailsEverywhere(NameTaken, {"name": name}, command)

    def test_asked_for_in_vain(self):
        told = [("race q a", "q"), ("race t a", "t"), ("race q z", "q"), ("race q a a", "q"), ("void q a 1", "q"),
                ("void t a 1", "t"), ("void q z 0", "q"), ("drop q", "q"), ("standing q t", "q"), ("standing y q", "q"),
                ("standing y y", "y"), ("standing t y", "t"), ("standing t t", "t"), ("standing q r", "q"),
                ("standing y empty", "empty"), ("points q t a", "q"), ("points y q a", "q"), ("points t y z", "t"),
                ("points q r z", "q"), ("points y q z", "q"), ("points y y a", "y"), ("relation q a b all 5", "q"),
                ("relation t a b all 5", "t"), ("relation q z z all 5", "q"), ("firsts q all 5", "q"),
                ("firsts t all 5", "t"), ("sure q a 1 all 5", "q"), ("sure t z -1 all 5", "t"), ("race a y", "a")]
        for command, name in told:
            self.assertFailsEverywhere(UnknownName, {"value": name}, command)

    def test_dropped(self):
        desk = started()
        desk.do("drop y", "drop steep")
        for command in ["race y a", "drop y", "standing y t", "firsts y all 1"]:
            self.assertCommandFails(desk, 0, UnknownName, {"value": "y"}, command)
        self.assertCommandFails(desk, 0, UnknownName, {"value": "steep"}, "standing empty steep")
        self.assertFails(UnknownName, {"value": "y"}, desk.diary, "y")

    def test_names(self):
        desk = started()
        self.assertEqual(desk.names(), ["empty", "steep", "t", "y"])
        self.assertEqual(Desk().names(), [])
        self.assertNew(desk.names)


class ErrorsTest(DeskCase):
    def test_what_it_does(self):
        told = [("season new a b a", InvalidRiders, {"position": 2}),
                ("season new a a", InvalidRiders, {"position": 1}),
                ("season new a b c d e f g", TooMany, {"what": "riders", "limit": 6}),
                ("season new a b c d e f a", InvalidRiders, {"position": 6}),
                ("race y z", InvalidRace, {"value": ["z"]}), ("race y a z", InvalidRace, {"value": ["a", "z"]}),
                ("race y a a", InvalidRace, {"value": ["a", "a"]}), ("race y a -", InvalidRace, {"value": ["a", None]}),
                ("race y -", InvalidRace, {"value": [None]}), ("race y t", InvalidRace, {"value": ["t"]}),
                ("race y a b c d - - -", InvalidRace, {"value": list("abcd") + [None] * 3}),
                ("race y - - - - - - a", InvalidRace, {"value": [None] * 6 + ["a"]}),
                ("race empty a", InvalidRace, {"value": ["a"]}),
                ("void y z 1", UnknownRider, {"value": "z"}), ("void y z 0", UnknownRider, {"value": "z"}),
                ("void y a 0", NoRace, {"value": -1}), ("void y a -1", NoRace, {"value": -2}),
                ("void y a 5", NoRace, {"value": 4}), (f"void y a {BIG}", NoRace, {"value": BIG - 1}),
                ("void y c 1", NoResult, {"rider": "c", "position": 0}), ("void empty z 1", NoRace, {"value": 0}),
                ("table new 0", InvalidPoints, {"position": 0}), ("table new -1", InvalidPoints, {"position": 0}),
                ("table new 1 2", InvalidPoints, {"position": 1}), ("table new 1 -1/2", InvalidPoints, {"position": 1}),
                ("table new 1/2 1/3 1/2", InvalidPoints, {"position": 2}),
                ("table new 1 1 1 1 1 1", InvalidPoints, {"position": None}),
                ("table new 0 0 0 0 0 0", InvalidPoints, {"position": None}),
                ("points y t z", UnknownRider, {"value": "z"}), ("relation y z a all 1", UnknownRider, {"value": "z"}),
                ("relation y a z all 1", UnknownRider, {"value": "z"}),
                ("relation y q z all 1", UnknownRider, {"value": "q"}),
                ("sure y z 1 all 1", UnknownRider, {"value": "z"}),
                ("sure y z -1 all 1", UnknownRider, {"value": "z"}),
                ("sure y a -1 all 1", InvalidNumber, {"value": -1}),
                (f"sure y a -{BIG} doubling 2", InvalidNumber, {"value": -BIG})]
        for command, kind, values in told:
            if command.startswith("void y a 5"):
                self.assertCommandFails(started(), 0, kind, values, command)
            else:
                self.assertFailsEverywhere(kind, values, command)

    def test_too_many_races(self):
        desk = started()
        desk.do(*["race y a"] * 37)
        limit = {"what": "races", "limit": 40}
        self.assertCommandFails(desk, 0, TooMany, limit, "race y b")
        self.assertCommandFails(desk, 1, TooMany, limit, "void y a 40", "race y")
        self.assertCommandFails(desk, 0, InvalidRace, {"value": ["b", "b"]}, "race y b b")
        self.assertEqual(desk.do("undo", "race y b"), ["done", "done"])

    def test_no_commands(self):
        told = ["", " ", "none", "Season new a", "SEASON new a", "seasons new a", "season", "season new", "season new ",
                "season  new a", " season new a", "season new a ", "season new  a", "season New a", "season new A",
                "season newnewnew a", "season new abcdefghi", "season new -", "season new a -", "season n1 a",
                "season - a", "season\nnew a", "season new a\n", "race", "race ", "race - a", "race y  a", "race y a ",
                "race y A", "race y a1", "race y --", "race Y a", "race y a,b", "void", "void y", "void y a",
                "void y a 1 2", "void y a 01", "void y a +1", "void y a -0", "void y a 1.0", "void y a 1/1",
                "void y a one", "void y a ", "void y - 1", "void y 1 a", "void 1 y a", "void y a 1 ", "table",
                "table new", "table new ", "table new a", "table new 3,2", "table new 2/4", "table new 3/1",
                "table new 3 0/1", "table new 3 -0", "table new 03", "table new +3", "table new 3.0", "table new 1/0",
                "table new 3/-1", "table new 1/02", "table new 3 2  1", "table new 3 2 1 ", "table New 3",
                "table 3 2 1",
                "table new -1/-2", "table new 3 /2", "table new 3 1/", "drop", "drop ", "drop y t", "drop Y", "drop 1",
                "drop y ", "undo ", " undo", "undo 1", "undo undo", "Undo", "standing", "standing y", "standing y t t",
                "standing y ", "standing y  t", "standing Y t", "standing y 3", "points y t", "points y t a b",
                "points y t -", "points y t A", "relation y a b", "relation y a b all", "relation y a b 5",
                "relation y a all 5", "relation y a b all 0", "relation y a b all 6", "relation y a b all 05",
                "relation y a b all -1", "relation y a b all +5", "relation y a b all five", "relation y a b any 5",
                "relation y a b All 5", "relation y a b all 5 5", "relation y a b all  5", "relation y a b all 5 ",
                "relation y a - all 5", "relation y a b shrinking", "relation y a b shrinking 6",
                "relation y a b doubling 0", "relation y a b doubling5", "firsts", "firsts y", "firsts y all",
                "firsts y all 6", "firsts y a all 5", "firsts y 5 all", "firsts y all 5 ", "firsts Y all 5",
                "sure y a all 5", "sure y a 1", "sure y a 1 all", "sure y a 01 all 5", "sure y a -0 all 5",
                "sure y a +1 all 5", "sure y a 1/2 all 5", "sure y a x all 5", "sure y - 1 all 5",
                "sure y a 1 all 5 1", "log", "names", "do undo", "undo\n", "a b c"]
        for command in told:
            self.assertCommandFails(started(), 0, InvalidCommand, {"value": command}, command)
            self.assertCommandFails(started(), 1, InvalidCommand, {"value": command}, "race y d", command)
        for command in [*told[:9], "race q A", "season y A", "table y x", "standing q 1", "sure q z -0 all 5",
                        "firsts q all 6"]:
            self.assertCommandFails(Desk(), 0, InvalidCommand, {"value": command}, command)

    def test_no_strings(self):
        for value in [None, True, 0, 1, b"undo", ["undo"], ("undo",), {"undo": 1}, {"undo"}, ["season", "y", "a"], [],
                      Ratio(1), Table(1), year(), Desk(), Desk, object()]:
            self.assertCommandFails(started(), 0, InvalidCommand, {"value": value}, value)
            self.assertCommandFails(started(), 1, InvalidCommand, {"value": value}, "undo", value, None)


class AskingTest(DeskCase):
    def test_copies_of_diaries(self):
        desk = started()
        diary = desk.diary("y")
        self.assertIs(type(diary), Diary)
        diary.put(["d"])
        diary.cut(0)
        self.assertEqual(desk.diary("y").season, year())
        self.assertIsNot(desk.diary("y"), desk.diary("y"))
        kept = desk.diary(name="y")
        desk.do("void y a 1", "race y c")
        self.assertEqual(kept.season, year())
        kept.void("b", 0)
        self.assertEqual(desk.diary("y").season, year().voided("a", 0).with_race(["c"]))
        desk.do("drop y")
        self.assertEqual(kept.season, year().voided("b", 0))

    def test_no_diary(self):
        desk = started()
        for value in no_names() + ["q", "t", "steep", "a", "season", ["y"], ("y",), {"y": 1}, Diary(year())]:
            self.assertFailsAlike(UnknownName, {"value": value}, desk.diary, name=value)

    def test_log(self):
        desk = started()
        self.assertEqual(desk.log(), STARTED)
        self.assertEqual(Desk().log(), [])
        self.assertNew(desk.log)
        desk.do(*RIGHT)
        self.assertEqual(desk.log(), STARTED + RIGHT[:4])
        desk.do("void y a 1", "undo", "drop t")
        self.assertEqual(desk.log(), STARTED + RIGHT[:4] + ["drop t"])

    def test_answers_are_new(self):
        desk = started()
        told = desk.do("standing y t")
        told.clear()
        self.assertEqual(desk.do("standing y t"), ["b a c d"])
        self.assertNew(lambda: desk.do("standing y t", "firsts y all 5"))


if __name__ == "__main__":
    unittest.main()
