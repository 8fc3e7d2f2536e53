"""The interface: each function stands in its file, with its parameters."""

import inspect
import unittest

from tests.interface import INTERFACE


class InterfaceTests(unittest.TestCase):
    def test_parameters_and_files(self):
        for module, listed in INTERFACE.items():
            for name, parameters in listed.items():
                call = getattr(module, name)
                self.assertTrue(inspect.isfunction(call), name)
                self.assertEqual(tuple(inspect.signature(call).parameters), parameters, name)
                self.assertEqual(call.__module__, module.__name__, name)

    def test_all_parameters_are_asked_for(self):
        for module, listed in INTERFACE.items():
            for name in listed:
                for parameter in inspect.signature(getattr(module, name)).parameters.values():
                    self.assertEqual(parameter.kind, inspect.Parameter.POSITIONAL_OR_KEYWORD, name)
                    self.assertIs(parameter.default, inspect.Parameter.empty, name)


if __name__ == "__main__":
    unittest.main()
