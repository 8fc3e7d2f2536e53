"""The interface: each function stands in its file, with its parameters."""

import inspect
import unittest

from tests.interface import CLASSES, INTERFACE, MODULES


def plainly_asked_for(test, call, name):
    for parameter in inspect.signature(call).parameters.values():
        test.assertEqual(parameter.kind, inspect.Parameter.POSITIONAL_OR_KEYWORD, name)
        test.assertIs(parameter.default, inspect.Parameter.empty, name)


class InterfaceTests(unittest.TestCase):
    def test_parameters_and_files(self):
        for module, listed in INTERFACE.items():
            for name, parameters in listed.items():
                call = getattr(module, name)
                self.assertTrue(inspect.isfunction(call), name)
                self.assertEqual(tuple(inspect.signature(call).parameters), parameters, name)
                self.assertEqual(call.__module__, module.__name__, name)

    def test_all_parameters_are_asked_for(self):
        for module, listed in INTERFACE.items():
            for name in listed:
                plainly_asked_for(self, getattr(module, name), name)

    def test_classes_and_their_methods(self):
        for made, listed in CLASSES.items():
            self.assertEqual(made.__bases__, (object,))
            self.assertEqual(made.__module__, MODULES[made])
            for name, parameters in listed.items():
                method = vars(made)[name]
                self.assertTrue(inspect.isfunction(method), name)
                self.assertEqual(tuple(inspect.signature(method).parameters), ("self",) + parameters, name)
                plainly_asked_for(self, method, name)


if __name__ == "__main__":
    unittest.main()
