"""The interface's gapyard/errors.py."""

import unittest

from gapyard import errors

PLAIN = ["BadName", "BadNumber", "Alike", "NoGap", "Unfit"]
WITH_FIELD = ["NoMoment", "Ring", "BadNote"]


class ErrorsTest(unittest.TestCase):
    def test_any_refusal_is_a_value_error(self):
        self.assertEqual(errors.YardError.__bases__, (ValueError,))

    def test_each_class_stands_straight_under_yard_error(self):
        for name in PLAIN + WITH_FIELD:
            with self.subTest(name):
                self.assertEqual(getattr(errors, name).__bases__, (errors.YardError,))

    def test_there_are_no_others_and_each_is_defined_there(self):
        found = [thing for thing in vars(errors).values() if isinstance(thing, type)]
        self.assertEqual(sorted(thing.__name__ for thing in found), sorted(PLAIN + WITH_FIELD + ["YardError"]))
        for thing in found:
            self.assertEqual(thing.__module__, "gapyard.errors")

    def test_plain_ones_take_any_wording(self):
        for name in PLAIN + ["YardError"]:
            with self.subTest(name):
                with self.assertRaises(errors.YardError):
                    raise getattr(errors, name)("some wording")

    def test_no_moment_tells_its_name(self):
        self.assertEqual(errors.NoMoment("abc").name, "abc")

    def test_ring_tells_its_ring(self):
        told = errors.Ring(["a", "b"]).ring
        self.assertIs(type(told), list)
        self.assertEqual(told, ["a", "b"])

    def test_ring_stays_when_the_list_handed_in_is_changed(self):
        row = ["a", "b"]
        error = errors.Ring(row)
        row.append("c")
        self.assertEqual(error.ring, ["a", "b"])

    def test_bad_note_tells_its_row(self):
        self.assertEqual(errors.BadNote(7).row, 7)


if __name__ == "__main__":
    unittest.main()
