import inspect
import unittest

from anypoints import errors
from tests.helpers import Case

BASES = {"PointsError": ValueError, "MissingError": LookupError, "StateError": RuntimeError,
         "LimitError": ArithmeticError}

ATTRIBUTES = {
    "PointsError": {
        "InvalidNumber": ["value"], "InvalidName": ["value"], "InvalidPoints": ["position"],
        "InvalidPlace": ["value"], "InvalidTable": ["value"], "InvalidSayings": ["position"],
        "InvalidFamily": ["value"], "InvalidRow": ["value"], "InvalidRiders": ["position"],
        "InvalidRaces": ["position"], "InvalidRace": ["value"], "InvalidSeason": ["value"],
        "InvalidRows": ["name"], "InvalidChart": ["value"], "InvalidTeams": ["name"],
        "InvalidEnd": ["value"], "InvalidOrder": ["value"], "InvalidPoint": ["value"],
        "InvalidWishes": ["position"], "InvalidText": ["line"], "InvalidClaim": ["value"],
        "InvalidCommand": ["value"],
    },
    "MissingError": {
        "UnknownRider": ["value"], "NoRace": ["value"], "NoResult": ["rider", "position"],
        "UnknownName": ["value"],
    },
    "StateError": {
        "DividedByZero": [], "NoTables": [], "OtherRiders": ["one", "other"], "LastRider": ["value"],
        "NoRivals": ["value"], "DoesNotFit": ["many"], "NameTaken": ["name"], "NothingToUndo": [],
        "CommandFailed": ["position"],
    },
    "LimitError": {"TooMany": ["what", "limit"]},
}

KINDS = [(base, name, told) for base, kinds in ATTRIBUTES.items() for name, told in kinds.items()]


class ErrorsTest(Case):
    def test_bases(self):
        for name, parent in BASES.items():
            self.assertEqual(getattr(errors, name).__bases__, (parent,))

    def test_each_is_directly_below_its_base(self):
        for base, name, _ in KINDS:
            self.assertEqual(getattr(errors, name).__bases__, (getattr(errors, base),), name)

    def test_there_are_no_others(self):
        own = [name for name, value in vars(errors).items() if inspect.isclass(value)]
        self.assertEqual(sorted(own), sorted([*BASES, *[name for _, name, _ in KINDS]]))

    def test_defined_here_with_their_own_parameters(self):
        for _, name, told in KINDS:
            kind = getattr(errors, name)
            self.assertEqual(kind.__module__, "anypoints.errors")
            self.assertIn("__init__", vars(kind))
            self.assertEqual(list(inspect.signature(kind).parameters), told, name)

    def test_any_values_are_kept(self):
        values = [None, True, 0, -3, "text", (1, [2]), [1, 2], {"a": []}, object(), ValueError("x")]
        for _, name, told in KINDS:
            kind = getattr(errors, name)
            for first in values:
                passed = [first, [first]][:len(told)]
                for error in [kind(*passed), kind(**dict(zip(told, passed)))]:
                    self.assertEqual(sorted(vars(error)), sorted(told), name)
                    for attribute, value in zip(told, passed):
                        self.assertIs(getattr(error, attribute), value)

    def test_no_more_and_no_fewer_values(self):
        for _, name, told in KINDS:
            kind = getattr(errors, name)
            with self.assertRaises(TypeError):
                kind(*([1] * (len(told) + 1)))
            if told:
                with self.assertRaises(TypeError):
                    kind(*([1] * (len(told) - 1)))

    def test_caught_by_base_and_by_pythons_own(self):
        for base, name, told in KINDS:
            for kind in [getattr(errors, name), getattr(errors, base), BASES[base]]:
                with self.assertRaises(kind):
                    raise getattr(errors, name)(*told)
            for other in BASES:
                if other != base:
                    self.assertFalse(issubclass(getattr(errors, name), getattr(errors, other)))

    def test_no_message_fails(self):
        for _, name, told in KINDS:
            error = getattr(errors, name)(*[["a", None] for _ in told])
            self.assertIsInstance(str(error), str)
            self.assertIsInstance(repr(error), str)


if __name__ == "__main__":
    unittest.main()
