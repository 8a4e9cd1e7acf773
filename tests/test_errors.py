import copy
import pickle
import unittest

from statementlots import errors
from statementlots.errors import LotError

from odd import HUGE, EqualToAll, Hostile

FIELDS = {
    "BadTable": "name", "BadStatement": "kind", "BadForm": "word", "BadNumber": "number", "BadTrigger": "place",
    "BadBook": "place", "BadText": "line", "Overlap": "kind", "Unknown": "name", "BadPicks": "kind",
    "BadClass": "index", "Refused": "name", "Endless": None, "NoDeed": None,
}
WITH_FIELDS = {name: field for name, field in FIELDS.items() if field is not None}
VALUES = [
    "open", "", "two\nlines", "100%s {0}", 0, 7, -1, HUGE, -HUGE, True, False, None, 1.5, b"open", (), ("a", 1), [1],
    {"a": [HUGE]}, (HUGE,), object(), EqualToAll(), Hostile(), ValueError("why"),
]


class Families(unittest.TestCase):
    def test_lot_error_is_a_direct_subclass_of_value_error(self):
        self.assertEqual(LotError.__bases__, (ValueError,))

    def test_there_are_fourteen_direct_subclasses(self):
        self.assertEqual(len(FIELDS), 14)
        for name in FIELDS:
            self.assertEqual(getattr(errors, name).__bases__, (LotError,), name)

    def test_all_are_defined_in_their_file(self):
        for name in [*FIELDS, "LotError"]:
            self.assertEqual(getattr(errors, name).__module__, "statementlots.errors")
            self.assertEqual(getattr(errors, name).__name__, name)

    def test_no_two_are_the_same_class(self):
        self.assertEqual(len({getattr(errors, name) for name in FIELDS}), 14)


class Fields(unittest.TestCase):
    def test_by_position(self):
        for name, field in WITH_FIELDS.items():
            for value in VALUES:
                error = getattr(errors, name)(value)
                self.assertTrue(getattr(error, field) is value, name)

    def test_by_name(self):
        for name, field in WITH_FIELDS.items():
            for value in VALUES:
                error = getattr(errors, name)(**{field: value})
                self.assertTrue(getattr(error, field) is value, name)

    def test_an_error_has_just_its_fields(self):
        for name, field in WITH_FIELDS.items():
            self.assertEqual(vars(getattr(errors, name)("open")), {field: "open"})

    def test_errors_without_fields(self):
        for name in ("Endless", "NoDeed"):
            self.assertEqual(vars(getattr(errors, name)()), {})
            with self.assertRaises(TypeError):
                getattr(errors, name)("open")

    def test_a_field_must_be_told(self):
        for name in WITH_FIELDS:
            with self.assertRaises(TypeError):
                getattr(errors, name)()

    def test_lot_error_takes_any_one_value(self):
        for value in VALUES:
            self.assertIsInstance(LotError(value), ValueError)


class Raising(unittest.TestCase):
    def test_each_is_caught_by_its_name_and_as_the_others(self):
        for name, field in FIELDS.items():
            made = getattr(errors, name)() if field is None else getattr(errors, name)("open")
            for kind in (getattr(errors, name), LotError, ValueError):
                with self.assertRaises(kind):
                    raise made

    def test_each_can_be_shown_whatever_it_is_made_with(self):
        for name in [*WITH_FIELDS, "LotError"]:
            for value in VALUES:
                error = getattr(errors, name)(value)
                self.assertIsInstance(str(error), str)
                self.assertIsInstance(repr(error), str)
        for name in ("Endless", "NoDeed"):
            self.assertIsInstance(str(getattr(errors, name)()), str)
            self.assertIsInstance(repr(getattr(errors, name)()), str)

    def test_what_is_short_is_shown_itself(self):
        self.assertEqual([str(errors.BadTable("open")), str(errors.BadText(12)), str(errors.BadForm(None))],
                         ["open", "12", "None"])
        self.assertEqual(str(LotError("why")), "why")
        self.assertEqual(repr(errors.BadTable("open")), "BadTable('open')")

    def test_each_can_be_copied(self):
        for name, field in FIELDS.items():
            made = getattr(errors, name)() if field is None else getattr(errors, name)(HUGE)
            for again in (copy.copy(made), pickle.loads(pickle.dumps(made))):
                self.assertEqual([again.__class__, vars(again), str(again)], [made.__class__, vars(made), str(made)])


if __name__ == "__main__":
    unittest.main()
