"""Promises 3 and 5: fits, the latest and earliest of moments, how far one may slip, and what they refuse."""

import itertools
import random
import unittest

from helper import (
    GREATEST, LETTERS, NO_NAMES, OF_NO_USE, YardCase, all_bounds, all_three_moment_yards, chance_fit_yard, has_ring,
    holds, row_yard, tight_yard, yard_round, yard_with,
)

from gapyard.errors import BadName, NoMoment, Ring, Unfit
from gapyard.fits import earliest, fit, is_fit, latest, slips
from gapyard.rings import ring
from gapyard.yard import Yard

NO_WHOLE_NUMBERS = OF_NO_USE + ["", "1", 1e60]


class AlikeKey:
    """A key that is equal to everything, and is found where the text is."""

    def __init__(self, text):
        self.text = text

    def __hash__(self):
        return hash(self.text)

    def __eq__(self, other):
        return True


class QuarrelsomeKey(AlikeKey):
    """A key that cannot be compared."""

    __hash__ = AlikeKey.__hash__

    def __eq__(self, other):
        raise RuntimeError("compared")


class TextKey(str):
    """A key of a kind derived from str that cannot be put in order."""

    def __lt__(self, other):
        raise RuntimeError("put in order")

    __gt__ = __le__ = __ge__ = __lt__


class IsFitTest(YardCase):
    def setUp(self):
        # b lies at most 3 behind a and at least 1; c is free.
        self.yard = yard_with(["a", "b", "c"], [("a", "b", 3), ("b", "a", -1)])

    def is_fit_is(self, expected, thing, yard=None):
        self.assertIs(self.told(yard or self.yard, is_fit, thing), expected)

    def test_fits(self):
        for far in (1, 2, 3):
            for start in (0, 1, -1, 10 ** 60, 10 ** 61, -(10 ** 3000)):
                for free in (0, start, -(10 ** 100), 10 ** 3000):
                    self.is_fit_is(True, {"a": start, "b": start + far, "c": free})

    def test_a_gap_that_does_not_hold(self):
        for far in (0, 4, -1, -2, 10 ** 60, -(10 ** 60)):
            for start in (0, 7, -(10 ** 61)):
                self.is_fit_is(False, {"a": start, "b": start + far, "c": 0})

    def test_each_gap_is_asked(self):
        yard = row_yard(LETTERS, -1)
        for one in LETTERS:
            numbers = {name: -at for at, name in enumerate(LETTERS)}
            self.is_fit_is(True, numbers, yard)
            numbers[one] += 1
            self.is_fit_is(one == "a", numbers, yard)

    def test_the_order_of_the_dict_means_nothing(self):
        self.is_fit_is(True, {"c": 5, "b": 2, "a": 0})

    def test_one_moment_more(self):
        for key in ("d", "aa", "A", "", "a ", 0, None, True, ("a",), b"a", 1.5, object(), len):
            self.is_fit_is(False, {"a": 0, "b": 1, "c": 0, key: 0})
            self.is_fit_is(False, {key: 0, "a": 0, "b": 1, "c": 0})

    def test_one_moment_left_out(self):
        whole = {"a": 0, "b": 1, "c": 0}
        for name in whole:
            self.is_fit_is(False, {key: whole[key] for key in whole if key != name})
        self.is_fit_is(False, {})

    def test_another_key_instead_of_a_name(self):
        for key in ("d", "C", "", "cc", 0, None, ("c",), b"c", frozenset(["c"]), AlikeKey("c"), QuarrelsomeKey("c")):
            self.is_fit_is(False, {"a": 0, "b": 1, key: 0})
            self.is_fit_is(False, {key: 0, "b": 1, "a": 0})

    def test_keys_that_only_seem_to_be_the_names(self):
        self.is_fit_is(False, {AlikeKey(name): 0 for name in "abc"})
        self.is_fit_is(False, {QuarrelsomeKey(name): 0 for name in "abc"})
        self.is_fit_is(False, {TextKey(name): 0 for name in "abd"})

    def test_what_is_no_whole_number(self):
        for thing in NO_WHOLE_NUMBERS:
            for name in "abc":
                numbers = {"a": 0, "b": 1, "c": 0}
                numbers[name] = thing
                self.is_fit_is(False, numbers)

    def test_true_and_false_are_no_numbers(self):
        self.is_fit_is(False, {"a": False, "b": 1, "c": 0})
        self.is_fit_is(False, {"a": 0, "b": True, "c": 0})
        self.is_fit_is(False, {"a": 0, "b": 1, "c": False})

    def test_another_kind_of_thing_than_a_dict(self):
        for thing in OF_NO_USE + [
            0, 1, "", "a", "abc", [0, 1, 0], (0, 1, 0), [("a", 0), ("b", 1), ("c", 0)], ["a", "b", "c"],
            {"a": 0, "b": 1, "c": 0}.items(), {"a": 0, "b": 1, "c": 0}.keys(), dict, self.yard,
        ]:
            self.is_fit_is(False, thing)

    def test_a_yard_of_one_moment(self):
        yard = Yard(["a"])
        for number in (0, 1, -5, 10 ** 61):
            self.is_fit_is(True, {"a": number}, yard)
        for thing in ({}, {"b": 0}, {"a": True}, {"a": 0, "b": 0}, {"a": None}, {"a": "0"}, None, 0):
            self.is_fit_is(False, thing, yard)

    def test_nothing_fits_a_yard_with_a_ring(self):
        yard = yard_with(["a", "b", "c"], [("a", "b", -1), ("b", "a", 0)])
        for a, b in itertools.product(range(-3, 4), repeat=2):
            self.is_fit_is(False, {"a": a, "b": b, "c": 0}, yard)
        self.is_fit_is(False, None, yard)

    def test_what_is_handed_in_stays(self):
        numbers = {"c": 9, "b": 1, "a": 0}
        self.is_fit_is(True, numbers)
        self.assertEqual(list(numbers.items()), [("c", 9), ("b", 1), ("a", 0)])
        numbers["b"] = 0
        self.is_fit_is(False, numbers)
        self.assertEqual(list(numbers.items()), [("c", 9), ("b", 0), ("a", 0)])


class FitTest(YardCase):
    def fits(self, yard):
        told = self.told(yard, fit)
        names = yard.names()
        self.assertIs(type(told), dict)
        self.assertEqual(sorted(told), sorted(names))
        self.assertEqual({type(number) for number in told.values()}, {int})
        self.assertEqual(told[names[0]], 0)
        self.assertTrue(holds(yard, told), (told, yard.gaps()))
        self.assertIs(is_fit(yard, told), True)

    def test_a_yard_of_one_moment(self):
        self.assertEqual(fit(Yard(["abc"])), {"abc": 0})

    def test_no_gaps(self):
        self.fits(Yard(LETTERS))

    def test_rows_of_gaps(self):
        for names in (LETTERS, LETTERS[::-1]):
            for most in (0, 5, -5, GREATEST, -GREATEST):
                self.fits(row_yard(names, most))

    def test_a_yard_with_one_fit_alone(self):
        numbers = {name: at * at - 7 * at for at, name in enumerate(LETTERS)}
        self.assertEqual(self.told(tight_yard(numbers), fit), numbers)

    def test_fits_with_numbers_beyond_those_of_gaps(self):
        yard = row_yard(LETTERS, -GREATEST)
        self.fits(yard)
        self.assertLessEqual(fit(yard)["t"], -19 * GREATEST)

    def test_a_start_that_others_draw(self):
        yard = yard_with(["s", "a", "b"], [("a", "s", -9), ("b", "a", -4)])
        self.fits(yard)

    def test_all_yards_of_three_moments(self):
        for yard in all_three_moment_yards([None, -1, 0, 2]):
            if has_ring(yard):
                self.refused_by_ring(yard, fit)
            else:
                self.fits(yard)

    def test_great_yards(self):
        chance = random.Random(5)
        for many in (2, 5, 11, 20):
            for share, slack in itertools.product((0.1, 0.5, 1), (0, 4, GREATEST // 10)):
                yard, _ = chance_fit_yard(chance, many, share, slack)
                self.fits(yard)

    def test_the_fit_told_is_the_askers(self):
        yard = row_yard(["a", "b"], -3)
        told = fit(yard)
        told["b"] = 7
        told["c"] = 8
        self.fits(yard)
        yard.put("a", "b", -4)
        self.assertEqual(told, {"a": 0, "b": 7, "c": 8})

    def test_a_ring(self):
        self.refused_by_ring(yard_round(["a", "b", "c"], [1, 1, -3]), fit)
        self.refused_by_ring(yard_with(["a", "b", "c"], [("b", "c", 0), ("c", "b", -1)]), fit)


class LatestAndEarliestTest(YardCase):
    def are(self, yard, earliest_numbers, latest_numbers):
        names = yard.names()
        for ask, numbers in ((earliest, earliest_numbers), (latest, latest_numbers)):
            told = self.told(yard, ask)
            self.assertIs(type(told), list)
            for pair in told:
                self.assertIs(type(pair), tuple)
                self.assertIn(type(pair[1]), (int, type(None)))
            self.assertEqual(told, list(zip(names, numbers)), (ask, yard.gaps()))

    def are_by_bounds(self, yard):
        names = yard.names()
        bounds = all_bounds(names, yard.gaps())
        least = [-bounds[(name, names[0])] if (name, names[0]) in bounds else None for name in names]
        self.are(yard, least, [bounds.get((names[0], name)) for name in names])

    def test_a_yard_of_one_moment(self):
        self.are(Yard(["abc"]), [0], [0])

    def test_no_gaps(self):
        self.are(Yard(LETTERS), [0] + 19 * [None], [0] + 19 * [None])

    def test_each_side(self):
        yard = yard_with(["s", "b", "a", "c"], [("s", "b", 5), ("b", "s", -2), ("s", "a", -4), ("c", "s", 6)])
        self.are(yard, [0, 2, None, -6], [0, 5, -4, None])

    def test_nought_is_not_none(self):
        yard = yard_with(["s", "a", "b", "c"], [("s", "a", 0), ("b", "s", 0)])
        self.are(yard, [0, None, 0, None], [0, 0, None, None])

    def test_a_moment_that_only_others_tie(self):
        self.are(yard_with(["s", "a", "b"], [("a", "b", 1), ("b", "a", 0)]), [0, None, None], [0, None, None])

    def test_over_many_moments(self):
        for most in (1, -1, GREATEST, -GREATEST):
            names = ["s"] + LETTERS[:18][::-1]
            steps = list(range(19))
            self.are(row_yard(names, most), [0] + 18 * [None], [step * most for step in steps])
            back = yard_with(names, [(other, one, most) for one, other in zip(names, names[1:])])
            self.are(back, [-step * most for step in steps], [0] + 18 * [None])

    def test_the_start_is_the_first_one(self):
        yard = yard_with(["b", "a"], [("a", "b", 4), ("b", "a", -1)])
        self.are(yard, [0, -4], [0, -1])

    def test_one_fit_alone(self):
        numbers = {name: at * at - 7 * at for at, name in enumerate(LETTERS)}
        self.are(tight_yard(numbers), list(numbers.values()), list(numbers.values()))

    def test_all_yards_of_three_moments_by_trying_fits(self):
        for yard in all_three_moment_yards([None, -1, 1]):
            if has_ring(yard):
                self.refused_by_ring(yard, latest)
                self.refused_by_ring(yard, earliest)
                continue
            # Wide enough to show each bound: where there is none, the numbers go on to the edge.
            fits = [(0, a, c) for a, c in itertools.product(range(-7, 8), repeat=2)
                    if holds(yard, {"b": 0, "a": a, "c": c})]
            columns = list(zip(*fits))
            least = [min(column) for column in columns]
            most = [max(column) for column in columns]
            self.are(
                yard,
                [number if number > -5 else None for number in least],
                [number if number < 5 else None for number in most],
            )

    def test_great_yards(self):
        chance = random.Random(6)
        for many in (2, 5, 11, 20):
            for share, slack in itertools.product((0.05, 0.2, 1), (0, 4, GREATEST // 10)):
                yard, _ = chance_fit_yard(chance, many, share, slack)
                self.are_by_bounds(yard)

    def test_fits_reach_them_and_go_no_farther(self):
        chance = random.Random(7)
        for _ in range(20):
            yard, _ = chance_fit_yard(chance, 6, 0.4, 4)
            start = yard.names()[0]
            for name, number in latest(yard)[1:]:
                if number is not None:
                    self.assertIs(self.ring_with(yard, name, start, -number), False)
                    self.assertIs(self.ring_with(yard, name, start, -number - 1), True)
            for name, number in earliest(yard)[1:]:
                if number is not None:
                    self.assertIs(self.ring_with(yard, start, name, number), False)
                    self.assertIs(self.ring_with(yard, start, name, number - 1), True)

    def ring_with(self, yard, one, other, most):
        """Whether the yard has a ring if the gap holds, too."""
        there = yard.most(one, other)
        tied = yard_with(yard.names(), yard.gaps())
        tied.put(one, other, most if there is None else min(most, there))
        return ring(tied) is not None

    def test_the_lists_told_are_the_askers(self):
        yard = yard_with(["a", "b"], [("a", "b", 4), ("b", "a", -1)])
        for ask, expected in ((latest, [("a", 0), ("b", 4)]), (earliest, [("a", 0), ("b", 1)])):
            told = ask(yard)
            told[1] = ("b", 99)
            told.append(("c", 1))
            self.assertEqual(ask(yard), expected)
            yard.put("a", "b", 4)
            self.assertEqual(told, [("a", 0), ("b", 99), ("c", 1)])

    def test_a_ring(self):
        apart = yard_with(["a", "b", "c"], [("b", "c", 0), ("c", "b", -1)])
        for yard in (yard_round(["a", "b", "c"], [1, 1, -3]), apart):
            self.refused_by_ring(yard, latest)
            self.refused_by_ring(yard, earliest)


class SlipsTest(YardCase):
    def slips_are(self, yard, given, name, expected):
        told = self.told(yard, slips, given, name)
        self.assertIs(type(told), tuple)
        self.assertEqual(told, expected, (yard.gaps(), given, name))
        for side in told:
            self.assertIn(type(side), (int, type(None)))

    def test_a_yard_of_one_moment(self):
        self.slips_are(Yard(["a"]), {"a": -3}, "a", (None, None))

    def test_a_moment_without_any_gap_about_it(self):
        yard = row_yard(["a", "c"], 1)
        yard = yard_with(["a", "b", "c"], yard.gaps())
        self.slips_are(yard, {"a": 0, "b": 5, "c": 1}, "b", (None, None))

    def test_each_side(self):
        yard = yard_with(["a", "b"], [("a", "b", 5), ("b", "a", -2)])
        self.slips_are(yard, {"a": 0, "b": 4}, "b", (2, 1))
        self.slips_are(yard, {"a": 0, "b": 4}, "a", (1, 2))
        self.slips_are(yard, {"a": 10, "b": 12}, "b", (0, 3))
        self.slips_are(yard, {"a": -10, "b": -5}, "b", (3, 0))

    def test_one_side_alone(self):
        yard = row_yard(["a", "b"], 5)
        self.slips_are(yard, {"a": 0, "b": 4}, "a", (1, None))
        self.slips_are(yard, {"a": 0, "b": 4}, "b", (None, 1))
        self.slips_are(yard, {"a": 0, "b": 5}, "a", (0, None))
        self.slips_are(yard, {"a": 0, "b": 5}, "b", (None, 0))

    def test_the_narrowest_gap_tells(self):
        gaps = [("a", "d", 9), ("b", "d", 4), ("c", "d", 7), ("d", "a", 9), ("d", "b", 8), ("d", "c", 3)]
        yard = yard_with(["a", "b", "c", "d"], gaps)
        self.slips_are(yard, {"a": 0, "b": 0, "c": 0, "d": 0}, "d", (3, 4))

    def test_numbers_of_any_size(self):
        yard = yard_with(["a", "b"], [("a", "b", GREATEST), ("b", "a", GREATEST)])
        for start in (0, 10 ** 100, -(10 ** 3000)):
            self.slips_are(yard, {"a": start, "b": start - GREATEST}, "b", (0, 2 * GREATEST))
        far = yard_with(["a", "b"], [("b", "a", 0)])
        self.slips_are(far, {"a": 0, "b": 10 ** 1000}, "b", (10 ** 1000, None))
        self.slips_are(far, {"a": 0, "b": 10 ** 1000}, "a", (None, 10 ** 1000))

    def test_as_far_as_it_remains_a_fit(self):
        chance = random.Random(8)
        for many, share, slack in itertools.product((2, 4, 8, 20), (0.1, 0.4, 1), (0, 3, GREATEST // 10)):
            yard, numbers = chance_fit_yard(chance, many, share, slack)
            for name in yard.names():
                down, up = self.told(yard, slips, numbers, name)
                for side, sign in ((down, -1), (up, 1)):
                    far = 10 ** 70 if side is None else side
                    self.assertTrue(holds(yard, {**numbers, name: numbers[name] + sign * far}))
                    if side is not None:
                        self.assertFalse(holds(yard, {**numbers, name: numbers[name] + sign * (side + 1)}))

    def test_what_is_handed_in_stays(self):
        given = {"b": 4, "a": 0}
        self.slips_are(row_yard(["a", "b"], 5), given, "a", (1, None))
        self.assertEqual(list(given.items()), [("b", 4), ("a", 0)])


class SlipsRefusedTest(YardCase):
    def setUp(self):
        self.yard = yard_with(["a", "b"], [("a", "b", 5), ("b", "a", -2)])
        self.given = {"a": 0, "b": 4}

    def test_unfit(self):
        for given in OF_NO_USE + [
            0, 1, "", "abc", {}, {"a": 0}, {"a": 0, "b": 4, "c": 0}, {"a": 0, "c": 4}, {"a": 0, "b": True},
            {"a": False, "b": 4}, {"a": 0, "b": 4.0}, {"a": 0, "b": "4"}, {"a": 0, "b": None}, {"a": 0, "b": 1},
            {"a": 0, "b": 6}, {"a": 0, "b": 10 ** 3000}, [("a", 0), ("b", 4)], (0, 4), {0: 0, 1: 4},
            {AlikeKey("a"): 0, "b": 4}, {QuarrelsomeKey("a"): 0, "b": 4},
        ]:
            self.refused(Unfit, self.yard, slips, given, "a")

    def test_what_is_no_whole_number(self):
        for thing in NO_WHOLE_NUMBERS:
            self.refused(Unfit, self.yard, slips, {"a": thing, "b": 4}, "a")

    def test_unfit_goes_before_bad_name_and_no_moment(self):
        for given in (None, {}, {"a": 0, "b": 6}, {"a": 0}, [], "a", True):
            for name in ("", "A", None, [], "z", "abcdefghi"):
                self.refused(Unfit, self.yard, slips, given, name)

    def test_bad_name(self):
        for thing in NO_NAMES:
            self.refused(BadName, self.yard, slips, self.given, thing)

    def test_no_moment(self):
        for name in ("c", "aa", "abcdefgh"):
            self.assertEqual(self.refused(NoMoment, self.yard, slips, self.given, name).name, name)

    def test_all_is_unfit_for_a_yard_with_a_ring(self):
        yard = yard_with(["a", "b", "c"], [("a", "b", 5), ("b", "a", -6)])
        for given in (None, {}, {"a": 0, "b": 5, "c": 0}, {"a": 0, "b": 6, "c": 0}):
            for name in ("a", "c", "z", "", None):
                self.refused(Unfit, yard, slips, given, name)

    def test_what_is_refused_is_not_changed(self):
        given = {"a": 0, "b": 6}
        self.refused(Unfit, self.yard, slips, given, "a")
        self.assertEqual(given, {"a": 0, "b": 6})
        self.refused(BadName, self.yard, slips, self.given, "A")
        self.assertEqual(self.given, {"a": 0, "b": 4})


class RingTest(YardCase):
    def test_ring_is_told_of_the_yard_at_that_time(self):
        yard = yard_with(["a", "b", "c"], [("a", "b", 0), ("b", "a", -1)])
        for ask in (fit, latest, earliest):
            error = self.refused(Ring, yard, ask)
            self.assertEqual(sorted(error.ring), ["a", "b"])
        yard.take("a", "b")
        yard.put("a", "c", -5)
        yard.put("c", "a", 4)
        for ask in (fit, latest, earliest):
            self.assertEqual(sorted(self.refused(Ring, yard, ask).ring), ["a", "c"])
        self.assertEqual(sorted(error.ring), ["a", "b"])


if __name__ == "__main__":
    unittest.main()
