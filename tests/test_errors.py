"""Interface: errors. Point [3]: the fields of an error are the very objects that were passed."""

import unittest

from duelsets import errors
from tests.samples import T, odd_values

DUEL_ERRORS = {
    "NoSet": ["value"],
    "SameAlternative": ["value"],
    "NoTop": ["value"],
    "NoOrder": [],
    "TooLarge": ["limit"],
    "NotOfKind": ["value"],
    "NoFlag": ["value"],
    "NoPlans": [],
    "BadTable": ["error"],
    "NotStrong": ["layers"],
    "TooManyEdits": [],
    "LastOne": [],
    "NothingToUndo": [],
    "BadEdits": [],
    "BadEdit": ["index"],
    "Rejected": ["index"],
    "Busy": [],
    "BadText": ["error"],
}

LOOKUP_ERRORS = {
    "NoAlternative": ["value"],
    "NoAddress": ["value"],
    "NoKind": ["value"],
    "NoIndex": ["value"],
    "NoVersion": ["value"],
}

ALL_ERRORS = {**DUEL_ERRORS, **LOOKUP_ERRORS}


def any_values():
    return odd_values() + [0, 1, (), (0,), (0, True), T, (None, None, "table"), (0, 1, "pair"), ((0,), (1,))]


class FieldsTest(unittest.TestCase):
    def check_fields(self, error, fields, values):
        for field, value in zip(fields, values, strict=True):
            self.assertIs(getattr(error, field), value)

    def test_fields_are_the_objects_that_were_passed(self):
        for name, fields in ALL_ERRORS.items():
            error_class = getattr(errors, name)
            for value in any_values():
                values = [value] * len(fields)
                before = repr(values)
                with self.subTest(name=name, value=before[:80]):
                    self.check_fields(error_class(*values), fields, values)
                    self.assertEqual(repr(values), before)

    def test_fields_are_there_after_raising(self):
        for name, fields in ALL_ERRORS.items():
            error_class = getattr(errors, name)
            values = [["an object of its own"] for _ in fields]
            with self.subTest(name=name):
                with self.assertRaises(error_class) as caught:
                    raise error_class(*values)
                self.assertIs(type(caught.exception), error_class)
                self.check_fields(caught.exception, fields, values)

    def test_two_errors_have_their_own_fields(self):
        for name, fields in ALL_ERRORS.items():
            error_class = getattr(errors, name)
            first, second = [[[at] for _ in fields] for at in (1, 2)]
            with self.subTest(name=name):
                one, other = error_class(*first), error_class(*second)
                self.check_fields(one, fields, first)
                self.check_fields(other, fields, second)

    def test_a_later_change_shows_in_the_field(self):
        value = [0]
        error = errors.NoSet(value)
        value.append(1)
        self.assertEqual(error.value, [0, 1])


class BasesTest(unittest.TestCase):
    def test_duel_error(self):
        self.assertTrue(issubclass(errors.DuelError, ValueError))
        self.assertFalse(issubclass(errors.DuelError, LookupError))

    def test_duel_error_is_the_only_base(self):
        for name in DUEL_ERRORS:
            with self.subTest(name=name):
                self.assertEqual(getattr(errors, name).__bases__, (errors.DuelError,))

    def test_lookup_errors(self):
        for name in LOOKUP_ERRORS:
            error_class = getattr(errors, name)
            with self.subTest(name=name):
                self.assertTrue(issubclass(error_class, LookupError))
                self.assertFalse(issubclass(error_class, ValueError))

    def test_no_alternative_is_no_key_error(self):
        self.assertFalse(issubclass(errors.NoAlternative, KeyError))

    def test_none_derives_from_another(self):
        for name in ALL_ERRORS:
            for other in ALL_ERRORS:
                if name != other:
                    with self.subTest(name=name, other=other):
                        self.assertFalse(issubclass(getattr(errors, name), getattr(errors, other)))

    def test_each_has_its_name(self):
        for name in ["DuelError", *ALL_ERRORS]:
            self.assertEqual(getattr(errors, name).__name__, name)


if __name__ == "__main__":
    unittest.main()
