"""The classes of refusals."""

import unittest

from menutree import errors

SEVEN = ("NoHouse", "Faulty", "NoName", "NoHour", "NoCall", "NoSigns", "NoRow")


class Classes(unittest.TestCase):
    def test_a_refusal_is_a_value_error(self):
        self.assertEqual(errors.MenuError.__bases__, (ValueError,))

    def test_the_seven_stand_straight_under_menu_error(self):
        for name in SEVEN:
            self.assertEqual(getattr(errors, name).__bases__, (errors.MenuError,), name)

    def test_none_of_the_seven_stands_under_another_one(self):
        for name in SEVEN:
            for other in SEVEN:
                under = issubclass(getattr(errors, name), getattr(errors, other))
                self.assertEqual(under, name == other, (name, other))

    def test_those_without_a_value_are_made_with_or_without_words(self):
        for name in SEVEN[2:]:
            for error in (getattr(errors, name)(), getattr(errors, name)("words")):
                self.assertIsInstance(error, errors.MenuError)


class Values(unittest.TestCase):
    def test_row(self):
        self.assertEqual(errors.NoHouse(7).row, 7)
        self.assertEqual(errors.NoHouse(row=1).row, 1)

    def test_each_object_has_its_own_row(self):
        one, other = errors.NoHouse(1), errors.NoHouse(2)
        self.assertEqual((one.row, other.row), (1, 2))

    def test_faults(self):
        told = [("lost", "", "a"), ("ring", 0, "b")]
        self.assertEqual(errors.Faulty(told).faults, [("lost", "", "a"), ("ring", 0, "b")])
        self.assertEqual(errors.Faulty(faults=[]).faults, [])

    def test_faults_are_the_askers_own(self):
        told = [("lost", "", "a")]
        error = errors.Faulty(told)
        told.append(("lost", "", "b"))
        self.assertEqual(error.faults, [("lost", "", "a")])
        error.faults.clear()
        self.assertEqual(told, [("lost", "", "a"), ("lost", "", "b")])
        self.assertIsInstance(error.faults, list)
