"""[11], [4]: the errors, what they keep and which class stands under which."""

import unittest

from fillerfed.errors import Dead, HallError, NoBelt, NoCommand, NoMachine, Nothing, NoText, TooMany, Wrong
from samples import any_values

WITH_FIELD = ((Dead, "ring"), (NoBelt, "index"), (NoMachine, "name"), (NoText, "line"), (TooMany, "most"), (Wrong, "place"))
BARE = (NoCommand, Nothing)
ALL = tuple(kind for kind, _ in WITH_FIELD) + BARE


class ErrorsTest(unittest.TestCase):
    def test_hall_error_is_under_value_error(self):
        self.assertEqual(HallError.__bases__, (ValueError,))

    def test_each_is_under_hall_error_and_under_no_other_one(self):
        for kind in ALL:
            with self.subTest(kind=kind):
                self.assertTrue(issubclass(kind, HallError))
                self.assertTrue(issubclass(kind, ValueError))
                self.assertEqual([other for other in ALL if issubclass(kind, other)], [kind])

    def test_each_is_raised_and_caught(self):
        for kind in ALL:
            given = () if kind in BARE else (3,)
            for caught in (kind, HallError, ValueError):
                with self.assertRaises(caught) as held:
                    raise kind(*given)
                self.assertIs(type(held.exception), kind)
            for other in ALL:
                if other is not kind:
                    self.assertNotIsInstance(kind(*given), other)

    def test_each_keeps_the_very_objects_it_was_made_of(self):
        for kind, field in WITH_FIELD:
            for thing in any_values():
                error = kind(thing)
                self.assertIs(getattr(error, field), thing)
                self.assertEqual(list(vars(error)), [field])

    def test_fields_are_not_copied(self):
        ring = [("down", 0)]
        error = Dead(ring)
        ring.append(("up", 1))
        self.assertEqual(error.ring, [("down", 0), ("up", 1)])

    def test_errors_without_fields(self):
        for kind in BARE:
            self.assertEqual(vars(kind()), {})


if __name__ == "__main__":
    unittest.main()
