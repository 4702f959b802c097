"""Promise 2, with the general sentences of promise 1: the yard and what it refuses."""

import unittest

from helper import NO_LISTS, NO_NAMES, NO_NUMBERS

from gapyard.errors import Alike, BadName, BadNumber, NoGap, NoMoment
from gapyard.yard import Yard

LETTERS = [chr(ord("a") + place) for place in range(26)]


class MadeTest(unittest.TestCase):
    def test_names_in_their_order(self):
        for names in (["a"], ["b", "a"], ["zz", "a", "abcdefgh", "m"]):
            with self.subTest(names):
                self.assertEqual(Yard(names).names(), names)

    def test_there_are_no_gaps_at_first(self):
        self.assertEqual(Yard(["a", "b"]).gaps(), [])

    def test_from_1_to_20_moments(self):
        for many in range(26):
            with self.subTest(many):
                if 1 <= many <= 20:
                    self.assertEqual(Yard(LETTERS[:many]).names(), LETTERS[:many])
                else:
                    with self.assertRaises(BadName):
                        Yard(LETTERS[:many])

    def test_no_list(self):
        for place, thing in enumerate(NO_LISTS):
            with self.subTest(place):
                with self.assertRaises(BadName):
                    Yard(thing)

    def test_no_name_at_any_place(self):
        for place, thing in enumerate(NO_NAMES):
            for names in ([thing], [thing, "b", "c"], ["b", thing, "c"], ["b", "c", thing]):
                with self.subTest(place):
                    with self.assertRaises(BadName):
                        Yard(names)

    def test_alike(self):
        for names in (["a", "a"], ["a", "b", "a"], ["b", "a", "a"], ["a"] * 20, LETTERS[:19] + ["k"]):
            with self.subTest(names):
                with self.assertRaises(Alike):
                    Yard(names)

    def test_bad_name_goes_before_alike(self):
        for names in (["a", "a", "B"], ["", "a", "a"], ["a", None, "a"], ["a"] * 21, LETTERS[:20] + ["a"], [[], []]):
            with self.subTest(names):
                with self.assertRaises(BadName):
                    Yard(names)

    def test_the_list_handed_in_is_not_changed(self):
        names = ["b", "a", "c"]
        yard = Yard(names)
        yard.put("a", "b", 1)
        self.assertEqual(names, ["b", "a", "c"])

    def test_the_list_handed_in_is_not_kept(self):
        names = ["b", "a"]
        yard = Yard(names)
        yard.put("a", "b", 1)
        names.append("c")
        names[0] = "z"
        self.assertEqual(yard.names(), ["b", "a"])
        self.assertEqual(yard.gaps(), [("a", "b", 1)])
        with self.assertRaises(NoMoment):
            yard.put("a", "c", 1)
        names.clear()
        self.assertEqual(yard.names(), ["b", "a"])

    def test_the_list_of_names_told_is_the_askers(self):
        yard = Yard(["b", "a"])
        told = yard.names()
        told.reverse()
        told.append("c")
        self.assertEqual(yard.names(), ["b", "a"])
        with self.assertRaises(NoMoment):
            yard.most("a", "c")
        self.assertEqual(told, ["a", "b", "c"])

    def test_yards_of_one_list_are_apart(self):
        names = ["a", "b"]
        first, second = Yard(names), Yard(names)
        first.put("a", "b", 1)
        self.assertEqual(second.gaps(), [])


class GapsTest(unittest.TestCase):
    def setUp(self):
        self.yard = Yard(["c", "a", "b"])

    def test_put_tells_what_was_there(self):
        self.assertIsNone(self.yard.put("a", "b", 5))
        self.assertEqual(self.yard.put("a", "b", -7), 5)
        self.assertEqual(self.yard.put("a", "b", 0), -7)
        told = self.yard.put("a", "b", 0)
        self.assertEqual(told, 0)
        self.assertIsNotNone(told)
        self.assertEqual(self.yard.gaps(), [("a", "b", 0)])

    def test_take_tells_what_goes(self):
        self.yard.put("a", "b", 5)
        self.yard.put("b", "a", 0)
        self.assertEqual(self.yard.take("a", "b"), 5)
        self.assertEqual(self.yard.gaps(), [("b", "a", 0)])
        self.assertEqual(self.yard.take("b", "a"), 0)
        self.assertEqual(self.yard.gaps(), [])
        self.assertIsNone(self.yard.put("a", "b", 6))

    def test_most(self):
        self.assertIsNone(self.yard.most("a", "b"))
        self.yard.put("a", "b", -3)
        self.assertEqual(self.yard.most("a", "b"), -3)
        self.assertIsNone(self.yard.most("b", "a"))
        self.yard.put("a", "b", 0)
        self.assertEqual(self.yard.most("a", "b"), 0)
        self.yard.take("a", "b")
        self.assertIsNone(self.yard.most("a", "b"))

    def test_there_and_back(self):
        self.assertIsNone(self.yard.put("a", "b", 5))
        self.assertIsNone(self.yard.put("b", "a", -2))
        self.assertEqual((self.yard.most("a", "b"), self.yard.most("b", "a")), (5, -2))
        self.assertEqual(self.yard.put("a", "b", 6), 5)
        self.assertEqual(self.yard.most("b", "a"), -2)

    def test_mosts_up_to_the_ends(self):
        for most in (10 ** 60, -(10 ** 60), 0, 1, -1):
            self.yard.put("a", "b", most)
            self.assertEqual(self.yard.most("a", "b"), most)
            self.assertEqual(self.yard.gaps(), [("a", "b", most)])

    def test_order_is_that_of_the_moments(self):
        pairs = [("b", "a"), ("a", "c"), ("c", "b"), ("b", "c"), ("c", "a"), ("a", "b")]
        for most, (one, other) in enumerate(pairs):
            self.yard.put(one, other, most)
        expected = [("c", "a", 4), ("c", "b", 2), ("a", "c", 1), ("a", "b", 5), ("b", "c", 3), ("b", "a", 0)]
        told = self.yard.gaps()
        self.assertEqual(told, expected)
        self.assertIs(type(told), list)
        for gap in told:
            self.assertIs(type(gap), tuple)

    def test_order_stays_when_gaps_go_and_come(self):
        self.yard.put("c", "a", 1)
        self.yard.put("c", "b", 2)
        self.yard.take("c", "a")
        self.yard.put("c", "a", 3)
        self.assertEqual(self.yard.gaps(), [("c", "a", 3), ("c", "b", 2)])

    def test_all_gaps_of_20_moments(self):
        names = LETTERS[19::-1]
        yard = Yard(names)
        for one in LETTERS[:20]:
            for other in LETTERS[:20]:
                if one != other:
                    yard.put(one, other, ord(one) - 2 * ord(other))
        expected = [(one, other, ord(one) - 2 * ord(other)) for one in names for other in names if one != other]
        self.assertEqual(len(expected), 380)
        self.assertEqual(yard.gaps(), expected)

    def test_the_list_of_gaps_told_is_the_askers(self):
        self.yard.put("a", "b", 5)
        told = self.yard.gaps()
        told.append(("b", "a", 1))
        told[0] = ("a", "b", 4)
        self.assertEqual(self.yard.gaps(), [("a", "b", 5)])
        self.assertIsNone(self.yard.most("b", "a"))
        self.yard.take("a", "b")
        self.assertEqual(told, [("a", "b", 4), ("b", "a", 1)])

    def test_gaps_told_stay_when_the_yard_changes(self):
        self.yard.put("a", "b", 5)
        told = self.yard.gaps()
        self.yard.put("a", "b", 6)
        self.yard.put("b", "a", 7)
        self.assertEqual(told, [("a", "b", 5)])


class RefusedTest(unittest.TestCase):
    def setUp(self):
        self.yard = Yard(["a", "b", "c"])
        self.yard.put("a", "b", 5)
        self.yard.put("b", "a", 0)

    def calls(self, one, other):
        return [
            lambda: self.yard.put(one, other, 1),
            lambda: self.yard.take(one, other),
            lambda: self.yard.most(one, other),
        ]

    def refused(self, error, calls):
        """Each call is refused with exactly this error, and the yard stays; tells the errors."""
        told = []
        for call in calls:
            with self.assertRaises(error) as caught:
                call()
            told.append(caught.exception)
            self.assertIs(type(caught.exception), error)
            self.assertEqual(self.yard.names(), ["a", "b", "c"])
            self.assertEqual(self.yard.gaps(), [("a", "b", 5), ("b", "a", 0)])
        return told

    def test_bad_name(self):
        for place, thing in enumerate(NO_NAMES):
            with self.subTest(place):
                self.refused(BadName, self.calls(thing, "b"))
                self.refused(BadName, self.calls("a", thing))

    def test_bad_name_goes_before_all_else(self):
        for thing in (None, [], "", "A", {}, ("a", "b")):
            with self.subTest(thing):
                self.refused(BadName, self.calls("z", thing))
                self.refused(BadName, self.calls(thing, "z"))
                self.refused(BadName, self.calls(thing, thing))
                self.refused(BadName, [lambda: self.yard.put(thing, "b", None)])
                self.refused(BadName, [lambda: self.yard.put("z", thing, 10 ** 61)])

    def test_no_moment(self):
        for name in ("z", "aa", "abcdefgh"):
            for one, other in ((name, "b"), ("a", name), (name, name), (name, "k")):
                with self.subTest((one, other)):
                    for error in self.refused(NoMoment, self.calls(one, other)):
                        self.assertEqual(error.name, name)

    def test_no_moment_goes_before_bad_number_and_no_gap(self):
        for one, other in (("z", "b"), ("a", "z"), ("z", "z")):
            for most in (None, True, 10 ** 60 + 1, "1", []):
                (error,) = self.refused(NoMoment, [lambda: self.yard.put(one, other, most)])
                self.assertEqual(error.name, "z")

    def test_alike(self):
        for name in ("a", "b", "c"):
            self.refused(Alike, self.calls(name, name))
            self.refused(Alike, [lambda: self.yard.put(name, name, None)])

    def test_bad_number(self):
        for place, thing in enumerate(NO_NUMBERS):
            with self.subTest(place):
                self.refused(BadNumber, [
                    lambda: self.yard.put("a", "b", thing),
                    lambda: self.yard.put("b", "a", thing),
                    lambda: self.yard.put("a", "c", thing),
                ])

    def test_no_gap(self):
        for one, other in (("a", "c"), ("c", "a"), ("b", "c"), ("c", "b")):
            self.refused(NoGap, [lambda: self.yard.take(one, other)])

    def test_no_gap_where_it_was_taken(self):
        self.yard.put("c", "a", 1)
        self.yard.take("c", "a")
        self.refused(NoGap, [lambda: self.yard.take("c", "a")])

    def test_a_yard_of_one_moment(self):
        yard = Yard(["a"])
        with self.assertRaises(Alike):
            yard.put("a", "a", 1)
        with self.assertRaises(NoMoment):
            yard.take("a", "b")
        self.assertEqual(yard.gaps(), [])


if __name__ == "__main__":
    unittest.main()
