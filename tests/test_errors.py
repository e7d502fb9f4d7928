"""The errors: what they keep, and what they derive from."""

import unittest

from foldsame import errors
from foldsame.errors import FoldError

ATTRIBUTES = {
    "BadText": ("row",),
    "BadName": ("value",),
    "BadModule": ("module", "row"),
    "BadValue": ("value",),
    "UnknownName": ("value",),
    "LimitExceeded": ("limit",),
    "NotLegal": ("one", "other"),
    "Noticed": ("moment",),
    "NotFunction": ("value",),
    "NotSure": ("one", "other", "later"),
    "Clash": ("value",),
    "BadJournal": ("row",),
    "BadQuestion": ("place",),
}


class Odd:
    """A value that can neither be shown nor compared nor hashed."""

    __hash__ = None

    def __repr__(self):
        raise RuntimeError("shown")

    def __eq__(self, other):
        raise RuntimeError("compared")


VALUES = [0, 7, -1, True, False, None, "", "text", (), (1, "a"), ((0, 1), 2), [], [1, [2]], {}, {"a": 1},
          {1, 2}, b"bytes", 1.5, object(), ValueError("x"), Odd()]


class Errors(unittest.TestCase):

    def kinds(self):
        return [(getattr(errors, name), names) for name, names in ATTRIBUTES.items()]

    def check_kept(self, error, names, values):
        for name, value in zip(names, values):
            self.assertIs(getattr(error, name), value)

    def test_there_are_thirteen(self):
        self.assertEqual(len(self.kinds()), 13)

    def test_all_derive_from_fold_error_alone(self):
        self.assertTrue(issubclass(FoldError, ValueError))
        kinds = [kind for kind, _ in self.kinds()]
        for kind in kinds:
            self.assertTrue(issubclass(kind, FoldError), kind)
            self.assertIsNot(kind, FoldError)
            self.assertEqual([other for other in kinds if issubclass(kind, other)], [kind])

    def test_made_by_position(self):
        for kind, names in self.kinds():
            for start in range(len(VALUES)):
                values = [VALUES[(start + k) % len(VALUES)] for k in range(len(names))]
                self.check_kept(kind(*values), names, values)

    def test_made_by_name(self):
        for kind, names in self.kinds():
            for start in range(len(VALUES)):
                values = [VALUES[(start + k) % len(VALUES)] for k in range(len(names))]
                self.check_kept(kind(**dict(zip(names, values))), names, values)

    def test_one_value_for_all(self):
        for kind, names in self.kinds():
            for value in VALUES:
                values = [value] * len(names)
                self.check_kept(kind(*values), names, values)

    def test_lists_are_kept_as_given(self):
        for kind, names in self.kinds():
            given = [1, 2]
            error = kind(*[given] * len(names))
            given.append(3)
            for name in names:
                self.assertIs(getattr(error, name), given)
            self.assertEqual(given, [1, 2, 3])

    def test_raised_and_caught(self):
        for kind, names in self.kinds():
            values = [(k, "x") for k in range(len(names))]
            for caught in (kind, FoldError, ValueError):
                with self.assertRaises(caught) as told:
                    raise kind(*values)
                self.assertIs(type(told.exception), kind)
                self.check_kept(told.exception, names, values)

    def test_defined_in_this_file(self):
        for kind, _ in self.kinds() + [(FoldError, ())]:
            self.assertEqual(kind.__module__, "foldsame.errors")


if __name__ == "__main__":
    unittest.main()
