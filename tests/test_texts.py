import random
import re
import unittest

from anypoints.errors import InvalidFamily, InvalidSeason, InvalidText, NoTables
from anypoints.families import Family
from anypoints.ratios import Ratio
from anypoints.seasons import Season
from anypoints.texts import family_text, read_family, read_season, season_text
from anypoints.words import integer_of, ratio_of
from tests.helpers import BIG, Case, no_families, no_seasons, seasons, some_families
from tests.test_seasons import year

YEAR_TEXT = """rider a
rider b
rider c
rider d
race a b
race b c d a
race a b
"""

FAMILY_TEXT = """pays 4
say 1 -2 0 0 0
say -1 3 0 0 0
say 0 1 -2 0 0
"""

LETTERS = "abz-0159 +/\n.AB"


def no_strings():
    return [None, True, False, 0, 1, b"rider a\n", ["rider a\n"], ("rider a\n",), {"rider a\n": 1}, Ratio(1),
            Season(["a"]), Family(1), str, object()]


def is_season_text(text):
    """Whether the text is a right one, by its pattern and by what it tells."""
    if not re.fullmatch(r"(rider [a-z]{1,8}\n)+(race( ([a-z]{1,8}|-))*\n)*", text):
        return False
    lines = [line.split() for line in text.splitlines()]
    riders = [words[1] for words in lines if words[0] == "rider"]
    races = [words[1:] for words in lines if words[0] == "race"]
    for race in races:
        told = [rider for rider in race if rider != "-"]
        if len(race) > 6 or race[-1:] == ["-"] or len(set(told)) < len(told) or not set(told) <= set(riders):
            return False
    return len(riders) <= 6 and len(races) <= 40 and riders == sorted(set(riders))


def is_family_text(text):
    """Whether the text is a right one, by its pattern and by what it tells."""
    number = r"(0|-?[1-9][0-9]*)"
    if not re.fullmatch(rf"pays [1-5]\n(say( {number}){{5}}\n)*", text):
        return False
    sayings = text.splitlines()[1:]
    return len(sayings) <= 4 and "say 0 0 0 0 0" not in sayings


def wrong_line(text, is_right):
    """The number of the wrong line; each right text stays right without its last lines, but for the first one."""
    lines = re.findall(r"[^\n]*\n|[^\n]+", text)
    for k, line in enumerate(lines, start=1):
        if not line.endswith("\n") or not is_right("".join(lines[:k])):
            return k
    return None if is_right(text) else len(lines) + 1


def spoilt_texts(draw, text, many):
    """Texts with a sign, a space or a line too much or too few, exchanged or doubled."""
    found = []
    for k in range(len(text)):
        found += [text[:k] + text[k + 1:], text[:k], text[:k] + text[k] + text[k:]]
        found += [text[:k] + draw.choice(LETTERS) + text[k + 1:], text[:k] + draw.choice(LETTERS) + text[k:]]
        found.append(text[:k] + text[k + 1:k + 2] + text[k:k + 1] + text[k + 2:])
    lines = text.splitlines(keepends=True)
    for k, line in enumerate(lines):
        rest = lines[:k] + lines[k + 1:]
        place = draw.randint(0, len(rest))
        found += ["".join(rest), "".join(rest[:place] + [line] + rest[place:]), "".join(lines[:k] + [line] + lines[k:])]
        found += ["".join(lines[:k] + [other] + lines[k:]) for other in ["\n", " \n", "race\n", "rider e\n", "say\n"]]
        found += ["".join(lines[:k] + [other + line] + lines[k + 1:]) for other in [" ", "-", "+", "0"]]
        found += ["".join(lines[:k] + [line[:-1] + other + "\n"] + lines[k + 1:]) for other in [" ", " -", " 0", "0"]]
        words = line.split()
        words = words[:-1] + [words[-1].upper()] if draw.randint(0, 1) else words + words[-1:]
        found.append("".join(lines[:k] + [" ".join(words) + "\n"] + lines[k + 1:]))
    found += [text + other for other in ["\n", " ", "a", "rider z\n", "race\n", "race -\n", "say 1 0 0 0 0\n", text]]
    draw.shuffle(found)
    return found[:many]


class TextCase(Case):
    def check(self, call, text, is_right, make):
        """Checks the wrong line of the text, or that it is read; whether it is right."""
        wrong = wrong_line(text, is_right)
        if wrong is not None:
            self.assertFailsAlike(InvalidText, {"line": wrong}, call, text=text)
            return False
        try:
            self.assertEqual(make(call(text)), text)
            self.assertEqual(call(text=text), call(text))
        except NoTables:
            self.assertFailsAlike(NoTables, {}, call, text=text)
        return True

    def check_season(self, text):
        return self.check(read_season, text, is_season_text, season_text)

    def check_family(self, text):
        return self.check(read_family, text, is_family_text, family_text)


class SeasonTextTest(TextCase):
    def test_told_ones(self):
        self.assertEqual(season_text(year()), YEAR_TEXT)
        self.assertEqual(season_text(season=Season(["b", "a"], [[], ["a"], (None, None, "b"), []])),
                         "rider a\nrider b\nrace\nrace a\nrace - - b\nrace\n")
        self.assertEqual(season_text(Season(["abcdefgh"])), "rider abcdefgh\n")

    def test_read_back(self):
        told = [*seasons(), Season(["a"]), Season(["a"], [[]] * 40), Season(list("fedcba"), [list("fedcba")] * 40)]
        for season in told:
            text = season_text(season)
            self.assertIs(is_season_text(text), True)
            self.assertEqual(read_season(text), season)
            self.assertEqual(read_season(text=text), season)
            self.assertIs(type(read_season(text)), Season)

    def test_spoilt(self):
        draw = random.Random(151)
        found = [0, 0]
        for season in [year(), *seasons()[:20]]:
            for text in spoilt_texts(draw, season_text(season), 400):
                found[self.check_season(text)] += 1
        self.assertGreater(min(found), 100)

    def test_wrong_lines(self):
        told = [("", 1), ("\n", 1), (" ", 1), ("rider a", 1), ("rider a\n\n", 2), ("rider a\nrace", 2),
                ("rider a\nrider a\n", 2), ("rider b\nrider a\n", 2), ("rider b\nrider c\nrider a\nrace\n", 3),
                ("race\n", 1), ("race a\nrider a\n", 1), ("rider a\nrace\nrider b\n", 3), ("rider A\n", 1),
                ("rider abcdefghi\n", 1), ("rider\n", 1), ("rider \n", 1), ("rider a \n", 1), (" rider a\n", 1),
                ("rider  a\n", 1), ("rider a b\n", 1), ("Rider a\n", 1), ("rider a\nrace  a\n", 2),
                ("rider a\nrace \n", 2), ("rider a\nrace a \n", 2), ("rider a\nrace a a\n", 2),
                ("rider a\nrace b\n", 2),
                ("rider a\nrace -\n", 2), ("rider a\nrace a -\n", 2), ("rider a\nrace - - - - - a\n", None),
                ("rider a\nrace - - - - - - a\n", 2), ("rider a\nrace None\n", 2), ("rider a\nraces\n", 2),
                ("rider a\nrace - a\nrace b\nrace c", 3), ("rider a\nrace\nrace b\nrider", 3), ("rider -\n", 1),
                ("rider b\nrace a\nrider a\n", 2), ("pays 3\n", 1), ("rider a\nrace\n\nrace", 3)]
        for text, line in told:
            self.assertEqual(wrong_line(text, is_season_text), line, text)
            self.check_season(text)

    def test_limits(self):
        six = "".join(f"rider {rider}\n" for rider in "abcdef")
        for text in [six, six + "race f e d c b a\n", six + "race\n" * 40]:
            self.assertIs(self.check_season(text), True)
        told = [(six + "rider g\n", 7), (six + "rider g", 7), (six + "rider f\n", 7), (six + "rider g\nrider a\n", 7),
                (six + "rider g\nrace\n", 7), (six + "race\n" * 41, 47), (six + "race\n" * 40 + "race", 47),
                (six + "race\n" * 40 + "race z\nrace\n", 47), ("rider a\n" + "race a\n" * 60, 42),
                ("rider a\n" + "race a\n" * 20 + "race b\n" + "race a\n" * 30, 22),
                (six + "race a b c d e f a\n", 7), (six + "race a b c d e f -\n", 7), (six + "\n" + "race\n" * 41, 7)]
        for text, line in told:
            self.assertFailsAlike(InvalidText, {"line": line}, read_season, text=text)
            self.assertEqual(wrong_line(text, is_season_text), line)

    def test_errors(self):
        for value in no_strings():
            self.assertFailsAlike(InvalidText, {"line": None}, read_season, text=value)
        for value in no_seasons():
            self.assertFailsAlike(InvalidSeason, {"value": value}, season_text, season=value)


class FamilyTextTest(TextCase):
    def test_told_ones(self):
        self.assertEqual(family_text(Family(4, (1, -2), (-1, 3), (0, 1, -2))), FAMILY_TEXT)
        self.assertEqual(family_text(family=Family(1)), "pays 1\n")
        self.assertEqual(family_text(Family(5, (BIG, -BIG, 0, 0, 1))), f"pays 5\nsay {BIG} {-BIG} 0 0 1\n")

    def test_read_back(self):
        more = [Family(5, (BIG, 1 - BIG)), Family(2, (0, 0, -7), (1,), (1,), (1, -1, 1, -1, 1))]
        for family in some_families() + more:
            text = family_text(family)
            self.assertIs(is_family_text(text), True)
            self.assertEqual(read_family(text), family)
            self.assertEqual(read_family(text=text), family)
            self.assertEqual(read_family(text).sayings(), family.sayings())

    def test_spoilt(self):
        draw = random.Random(152)
        found = [0, 0]
        for family in [Family(4, (1, -2), (-1, 3), (0, 1, -2)), *some_families()[::2]]:
            for text in spoilt_texts(draw, family_text(family), 400):
                found[self.check_family(text)] += 1
        self.assertGreater(min(found), 100)

    def test_wrong_lines(self):
        told = [("", 1), ("\n", 1), ("pays 3", 1), ("pays 0\n", 1), ("pays 6\n", 1), ("pays 03\n", 1), ("pays +3\n", 1),
                ("pays -3\n", 1), ("pays 3 \n", 1), ("pays  3\n", 1), ("pays\n", 1), ("pays \n", 1), ("pays 3 4\n", 1),
                ("Pays 3\n", 1), ("pays three\n", 1), ("pays 3\npays 3\n", 2), ("pays 3\n\n", 2),
                ("say 1 0 0 0 0\n", 1),
                ("say 1 0 0 0 0\npays 3\n", 1), ("pays 3\nsay 1 0 0 0\n", 2), ("pays 3\nsay 1 0 0 0 0 0\n", 2),
                ("pays 3\nsay\n", 2), ("pays 3\nsay 0 0 0 0 0\n", 2), ("pays 3\nsay 1 -0 0 0 0\n", 2),
                ("pays 3\nsay 1 00 0 0 0\n", 2), ("pays 3\nsay 01 0 0 0 0\n", 2), ("pays 3\nsay +1 0 0 0 0\n", 2),
                ("pays 3\nsay 1 -01 0 0 0\n", 2), ("pays 3\nsay 1 - 0 0 0\n", 2), ("pays 3\nsay 1 --1 0 0 0\n", 2),
                ("pays 3\nsay 1 1/2 0 0 0\n", 2), ("pays 3\nsay 1 1.0 0 0 0\n", 2), ("pays 3\nsay 1 1_0 0 0 0\n", 2),
                ("pays 3\nsay 1  0 0 0\n", 2), ("pays 3\nsay 1 0 0 0 0 \n", 2), ("pays 3\nsay 1 a 0 0 0\n", 2),
                ("pays 3\nsay 1 0 0 0 0\nsay 1 0 0 0 0", 3), ("pays 3\nsay 1 0 0 0 0\nrace\nsay", 3), ("rider a\n", 1),
                ("pays 3\nsay 0 0 0 0 -1\n", None), ("pays 3\nsay 10 -20 100 0 0\n", None)]
        for text, line in told:
            self.assertEqual(wrong_line(text, is_family_text), line, text)
            self.check_family(text)

    def test_limits(self):
        four = "pays 5\n" + "say 1 0 0 0 0\n" * 4
        self.assertIs(self.check_family(four), True)
        for text, line in [(four + "say 1 0 0 0 0\n", 6), (four + "say 1 0 0 0 0", 6), (four + "say\nsay\n", 6),
                           (four + "say 0 0 0 0 0\n", 6), (four + "say 1 0 0 0 0\n" * 5, 6), (four + "\n", 6)]:
            self.assertFailsAlike(InvalidText, {"line": line}, read_family, text=text)
            self.assertEqual(wrong_line(text, is_family_text), line)

    def test_without_tables(self):
        for text in ["pays 1\nsay -1 0 0 0 0\n", "pays 5\nsay 1 -2 0 0 0\nsay -2 3 0 0 0\n",
                     "pays 2\nsay -1 -1 0 0 0\nsay 1 0 0 0 0\n"]:
            self.assertIs(is_family_text(text), True)
            self.assertFailsAlike(NoTables, {}, read_family, text=text)
            for wrong in [text + "\n", text + "pays 1\n", text[:-1]]:
                line = len(text.splitlines()) + wrong.endswith("\n")
                self.assertFailsAlike(InvalidText, {"line": line}, read_family, text=wrong)

    def test_errors(self):
        for value in no_strings():
            self.assertFailsAlike(InvalidText, {"line": None}, read_family, text=value)
        for value in no_families():
            self.assertFailsAlike(InvalidFamily, {"value": value}, family_text, family=value)


class WordsTest(Case):
    def test_integers(self):
        for number in [0, 1, -1, 9, 10, -10, 100, BIG, -BIG]:
            self.assertEqual(integer_of(str(number)), number)
        for word in ["", "-", "+", "-0", "+1", "01", "-01", "00", "1 ", " 1", "1-", "--1", "1.0", "1_0", "a", "0x1",
                     "1/2"]:
            self.assertIsNone(integer_of(word), word)

    def test_ratios(self):
        for top in [0, 1, -1, 2, 6, BIG, -BIG]:
            for bottom in [1, 2, 3, 9, BIG]:
                ratio = Ratio(top, bottom)
                self.assertEqual(ratio_of(str(ratio)), ratio)
                if str(ratio) != f"{top}/{bottom}":
                    self.assertIsNone(ratio_of(f"{top}/{bottom}"))
        for word in ["", "/", "1/", "/2", "1/0", "0/1", "0/2", "2/1", "2/4", "1/-2", "-1/-2", "-0/2", "01/2", "1/02",
                     "1//2", "1/2/3", "+1/2", "1/+2", "1 /2", "1/ 2", "1.5", "a/b", "--1/2", "1/2 ", "0/0", "-0", "-"]:
            self.assertIsNone(ratio_of(word), word)


class StayingTest(Case):
    def test_nothing_changes(self):
        season, family = year(), Family(3, (1, -2))
        for call in [lambda: season_text(season), lambda: family_text(family), lambda: read_season(YEAR_TEXT),
                     lambda: read_family(FAMILY_TEXT)]:
            self.assertEqual(call(), call())
        self.assertEqual([season, family], [year(), Family(3, (1, -2))])


if __name__ == "__main__":
    unittest.main()
