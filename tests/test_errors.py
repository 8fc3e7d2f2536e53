"""causeloops/errors.py: the classes and their attributes."""

import unittest

from causeloops import errors
from tests.samples import strange_values

WITH_THING = (
    "BadPlacement", "BadPlace", "BadEdge", "BadPlan", "BadCounts", "BadRegister", "BadUpdate", "BadRun", "BadLoop",
    "BadSite", "BadEdges", "BadStandins", "BadNumber", "BadChange", "BadWrites", "BadPlaces", "BadValue", "BadStore",
    "BadRows", "BadEvent",
)
WITH_AT = ("BadHistory", "BadLine")
WITH_NOTHING = ("NotReady", "IsCounted", "NotEarly")
PARAMETERS = {name: "thing" for name in WITH_THING}
PARAMETERS.update({name: "at" for name in WITH_AT})
PARAMETERS.update({"OwnEdge": "edge"})


class ErrorTests(unittest.TestCase):
    def test_base(self):
        self.assertEqual(errors.LoopError.__bases__, (Exception,))
        self.assertEqual(vars(errors.LoopError()), {})

    def test_all_are_direct_subclasses_defined_there(self):
        for name in tuple(PARAMETERS) + WITH_NOTHING:
            made = getattr(errors, name)
            self.assertEqual(made.__bases__, (errors.LoopError,), name)
            self.assertEqual(made.__module__, "causeloops.errors", name)

    def test_no_others(self):
        found = [name for name, made in vars(errors).items() if isinstance(made, type)]
        self.assertEqual(sorted(found), sorted(tuple(PARAMETERS) + WITH_NOTHING + ("LoopError",)))

    def test_parameters_are_attributes(self):
        for name, parameter in PARAMETERS.items():
            made = getattr(errors, name)
            for value in strange_values():
                by_place, by_name = made(value), made(**{parameter: value})
                self.assertEqual(list(vars(by_place)), [parameter], name)
                self.assertIs(getattr(by_place, parameter), value)
                self.assertEqual(list(vars(by_name)), [parameter], name)
                self.assertIs(getattr(by_name, parameter), value)

    def test_without_parameters(self):
        for name in WITH_NOTHING:
            self.assertEqual(vars(getattr(errors, name)()), {})

    def test_can_be_caught_by_the_base(self):
        for name, parameter in PARAMETERS.items():
            with self.assertRaises(errors.LoopError) as caught:
                raise getattr(errors, name)((1, "a"))
            self.assertEqual(getattr(caught.exception, parameter), (1, "a"))


if __name__ == "__main__":
    unittest.main()
