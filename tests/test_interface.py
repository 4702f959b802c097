"""The interface: names, where they are defined, and their arguments."""

import importlib
import inspect
import unittest

INTERFACE = {
    "names": {"is_name": ["thing"], "is_number": ["thing"]},
    "yard": {"Yard": ["names"]},
    "rings": {"ring": ["yard"]},
    "ways": {"bound": ["yard", "one", "other"], "way": ["yard", "one", "other"]},
    "fits": {
        "is_fit": ["yard", "thing"], "fit": ["yard"], "latest": ["yard"], "earliest": ["yard"],
        "slips": ["yard", "given", "name"],
    },
    "needs": {"needless": ["yard", "one", "other"], "pared": ["yard"]},
    "notes": {"note_of": ["yard"], "yard_of": ["text"]},
}

METHODS = {
    "names": [], "put": ["one", "other", "most"], "take": ["one", "other"], "most": ["one", "other"], "gaps": [],
}


class InterfaceTest(unittest.TestCase):
    def test_each_is_defined_in_its_file_with_its_arguments(self):
        for file, things in INTERFACE.items():
            module = importlib.import_module(f"gapyard.{file}")
            for name, arguments in things.items():
                with self.subTest(f"{file}.{name}"):
                    thing = getattr(module, name)
                    self.assertEqual(thing.__module__, f"gapyard.{file}")
                    self.assertEqual(list(inspect.signature(thing).parameters), arguments)

    def test_methods_are_defined_in_the_class_itself(self):
        yard = importlib.import_module("gapyard.yard").Yard
        for name, arguments in METHODS.items():
            with self.subTest(name):
                method = vars(yard)[name]
                self.assertEqual(list(inspect.signature(method).parameters), ["self", *arguments])


if __name__ == "__main__":
    unittest.main()
