import unittest

from helper import THINGS
from plansamid import errors

WITH_FIELD = {"Taken": "name", "TooMany": "most", "NoPlace": "number", "NoAsk": "what", "Spent": "budget",
              "NoText": "line"}
WITHOUT_FIELD = ["NoWorth", "NoDeed", "NoRule", "NoRoom", "Done", "NotDone", "NoName", "Busy", "NoStand",
                 "Unlike", "NoPlaces", "NoLine"]


class ErrorsTest(unittest.TestCase):

    def test_each_stands_straight_under_plan_error(self):
        for name in list(WITH_FIELD) + WITHOUT_FIELD:
            self.assertEqual(getattr(errors, name).__bases__, (errors.PlanError,), name)
        self.assertEqual(errors.PlanError.__bases__, (ValueError,))

    def test_each_is_defined_in_its_file(self):
        for name in list(WITH_FIELD) + WITHOUT_FIELD + ["PlanError", "Unknown"]:
            self.assertEqual(getattr(errors, name).__module__, "plansamid.errors")

    def test_unknown_stands_under_key_error_alone(self):
        self.assertEqual(errors.Unknown.__bases__, (KeyError,))
        self.assertFalse(issubclass(errors.Unknown, ValueError))
        with self.assertRaises(KeyError):
            raise errors.Unknown("a")

    def test_what_each_is_caught_by(self):
        made = [getattr(errors, name)() for name in WITHOUT_FIELD]
        made += [getattr(errors, name)(1) for name in WITH_FIELD]
        for error in made:
            for catcher in (errors.PlanError, ValueError, Exception):
                with self.assertRaises(catcher):
                    raise error
            self.assertNotIsInstance(error, (KeyError, errors.Unknown))
            others = [other for other in made if other is not error]
            self.assertFalse(any(isinstance(error, other.__class__) for other in others))

    def test_field_is_what_it_is_made_with(self):
        for name, field in list(WITH_FIELD.items()) + [("Unknown", "name")]:
            kind = getattr(errors, name)
            for thing in THINGS:
                told = getattr(kind(thing), field)
                self.assertEqual(told, thing)
                self.assertIs(told.__class__, thing.__class__)
                self.assertEqual(getattr(kind(**{field: thing}), field), thing)

    def test_field_is_a_copy(self):
        for name, field in list(WITH_FIELD.items()) + [("Unknown", "name")]:
            inner = [1]
            thing = {"a": ([inner], {"b": 2})}
            error = getattr(errors, name)(thing)
            inner.append(2)
            thing["a"][1]["b"] = 4
            thing["c"] = 3
            self.assertEqual(getattr(error, field), {"a": ([[1]], {"b": 2})})

    def test_field_is_needed(self):
        for name in list(WITH_FIELD) + ["Unknown"]:
            with self.assertRaises(TypeError):
                getattr(errors, name)()

    def test_plan_error_of_a_text(self):
        self.assertEqual(str(errors.PlanError("why")), "why")
        self.assertEqual(str(errors.PlanError()), "")
