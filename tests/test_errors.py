"""[11], [4]: the error classes, their fields and bases."""

import inspect
import unittest

from enoughlooks import errors

FIELDS = {
    "Wrong": ["place"], "NoTable": ["name"], "Twice": ["name"], "BadRow": ["name", "row"], "NoText": ["line"],
    "TooMany": ["most"], "NotNested": [], "NotFit": ["index"], "NoShape": [], "NoPoint": ["index"], "NoName": ["name"],
    "PowerCut": [], "NoCommand": [],
}


class TestErrors(unittest.TestCase):
    def classes(self):
        return {name: thing for name, thing in vars(errors).items() if inspect.isclass(thing)}

    def test_these_and_no_others(self):
        self.assertEqual(sorted(self.classes()), sorted([*FIELDS, "LookError"]))

    def test_bases(self):
        self.assertTrue(issubclass(errors.LookError, ValueError))
        for name in FIELDS:
            thing = getattr(errors, name)
            own = [base for base in self.classes().values() if issubclass(thing, base)]
            self.assertEqual(own, [errors.LookError, thing], name)
            self.assertTrue(issubclass(thing, ValueError))

    def test_fields_are_the_objects_themselves(self):
        for name, fields in FIELDS.items():
            for make in (list, dict, object, lambda: None, lambda: ([],)):
                given = [make() for _ in fields]
                error = getattr(errors, name)(*given)
                self.assertEqual(sorted(vars(error)), sorted(fields), name)
                for field, thing in zip(fields, given):
                    self.assertIs(getattr(error, field), thing, name)

    def test_so_many_arguments(self):
        for name, fields in FIELDS.items():
            if fields:
                with self.assertRaises(TypeError):
                    getattr(errors, name)()
                with self.assertRaises(TypeError):
                    getattr(errors, name)(*fields, 1)

    def test_defined_there(self):
        for thing in self.classes().values():
            self.assertEqual(thing.__module__, "enoughlooks.errors")


if __name__ == "__main__":
    unittest.main()
