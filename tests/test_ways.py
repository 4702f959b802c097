"""Promise 4: ways and bounds, and what they refuse."""

import itertools
import random
import unittest

from helper import (
    GREATEST, LETTERS, NO_NAMES, YardCase, all_bounds, all_three_moment_yards, chance_fit_yard, chance_yard, has_ring,
    length_of, row_yard, tight_yard, tried_bound, yard_round, yard_with,
)

from gapyard.errors import BadName, NoMoment, Ring
from gapyard.ways import bound, way
from gapyard.yard import Yard


class WaysTest(YardCase):
    def bound_is(self, yard, one, other, expected):
        """The bound must be told, and a way of that length."""
        told = self.told(yard, bound, one, other)
        row = self.told(yard, way, one, other)
        self.assertEqual(told, expected, (yard.gaps(), one, other))
        if expected is None:
            self.assertIsNone(row, (yard.gaps(), one, other))
        else:
            self.assertIs(type(told), int)
            self.assertEqual(length_of(yard.gaps(), row), expected, (yard.gaps(), row))
            self.assertEqual((row[0], row[-1]), (one, other))

    def bounds_are(self, yard, bounds):
        for one, other in itertools.product(yard.names(), repeat=2):
            self.bound_is(yard, one, other, bounds.get((one, other)))

    def test_a_yard_of_one_moment(self):
        yard = Yard(["abc"])
        self.bound_is(yard, "abc", "abc", 0)
        self.assertEqual(way(yard, "abc", "abc"), ["abc"])

    def test_a_moment_and_itself(self):
        for yard in (
            Yard(["a", "b"]), yard_round(["a", "b", "c"], [1, 1, 1]), yard_round(["a", "b", "c"], [-1, 2, -1]),
            tight_yard({"a": 3, "b": -3, "c": 0}), row_yard(["a", "b"], -1),
        ):
            for name in yard.names():
                self.bound_is(yard, name, name, 0)
                self.assertEqual(way(yard, name, name), [name])

    def test_no_way(self):
        yard = yard_with(["a", "b", "c", "d"], [("a", "b", 1), ("c", "b", 2), ("d", "c", -3)])
        self.bounds_are(yard, {
            ("a", "a"): 0, ("b", "b"): 0, ("c", "c"): 0, ("d", "d"): 0,
            ("a", "b"): 1, ("c", "b"): 2, ("d", "c"): -3, ("d", "b"): -1,
        })

    def test_no_gaps(self):
        yard = Yard(LETTERS)
        self.bounds_are(yard, {(name, name): 0 for name in LETTERS})

    def test_a_way_of_nought_is_a_way(self):
        self.bounds_are(row_yard(["a", "b"], 0), {("a", "a"): 0, ("b", "b"): 0, ("a", "b"): 0})

    def test_a_way_over_many_moments_shorter_than_the_gap(self):
        for names in (LETTERS, LETTERS[::-1]):
            yard = row_yard(names, 2)
            yard.put(names[0], names[-1], 39)
            self.bound_is(yard, names[0], names[-1], 38)
            self.assertEqual(way(yard, names[0], names[-1]), names)
            yard.put(names[0], names[-1], 37)
            self.bound_is(yard, names[0], names[-1], 37)
            self.assertEqual(way(yard, names[0], names[-1]), [names[0], names[-1]])
            yard.put(names[0], names[-1], 38)
            self.bound_is(yard, names[0], names[-1], 38)

    def test_mosts_below_nought(self):
        yard = yard_with(["a", "b", "c"], [("a", "c", -2), ("c", "b", -3), ("a", "b", -4), ("b", "a", 5)])
        self.bounds_are(yard, {
            ("a", "a"): 0, ("b", "b"): 0, ("c", "c"): 0, ("a", "c"): -2, ("c", "b"): -3, ("a", "b"): -5,
            ("b", "a"): 5, ("b", "c"): 3, ("c", "a"): 2,
        })

    def test_mosts_below_nought_that_draw_a_longer_way_short(self):
        gaps = [("a", "b", 1), ("a", "c", 10), ("c", "b", -20), ("b", "d", 1), ("a", "d", 0)]
        self.bound_is(yard_with(["a", "b", "c", "d"], gaps), "a", "d", -9)

    def test_sums_beyond_the_numbers_of_gaps(self):
        for most in (GREATEST, -GREATEST, GREATEST - 1, 1 - GREATEST):
            for names in (LETTERS, LETTERS[::-1]):
                yard = row_yard(names, most)
                self.bounds_are(yard, {
                    (names[at], names[to]): (to - at) * most for at in range(20) for to in range(at, 20)
                })

    def test_great_and_small_together(self):
        gaps = [("a", "b", GREATEST), ("b", "c", GREATEST), ("c", "d", 1 - GREATEST), ("a", "d", GREATEST)]
        yard = yard_with(["d", "c", "b", "a"], gaps)
        self.bound_is(yard, "a", "c", 2 * GREATEST)
        self.bound_is(yard, "a", "d", GREATEST)
        yard.put("c", "d", -GREATEST)
        self.bound_is(yard, "a", "d", GREATEST)
        yard.put("b", "c", GREATEST - 1)
        self.bound_is(yard, "a", "d", GREATEST - 1)

    def test_rounds_of_nought(self):
        for many in (2, 3, 4, 9, 20):
            numbers = {name: (at * 7) % 5 - 2 for at, name in enumerate(LETTERS[:many])}
            bounds = {(one, other): numbers[other] - numbers[one] for one in numbers for other in numbers}
            self.bounds_are(tight_yard(numbers), bounds)

    def test_all_yards_of_three_moments(self):
        for yard in all_three_moment_yards([None, -1, 0, 2]):
            gaps = yard.gaps()
            for one, other in itertools.product("abc", repeat=2):
                if has_ring(yard):
                    self.refused_by_ring(yard, bound, one, other)
                    self.refused_by_ring(yard, way, one, other)
                else:
                    self.bound_is(yard, one, other, tried_bound(yard.names(), gaps, one, other))

    def test_yards_of_up_to_five_moments(self):
        chance = random.Random(3)
        for _ in range(200):
            yard = chance_yard(chance, chance.randint(1, 5), chance.randint(-3, 0), 6)
            if not has_ring(yard):
                gaps = yard.gaps()
                for one, other in itertools.product(yard.names(), repeat=2):
                    self.bound_is(yard, one, other, tried_bound(yard.names(), gaps, one, other))

    def test_great_yards(self):
        chance = random.Random(4)
        for many, share, slack in (
            (6, 0.3, 3), (10, 0.2, 0), (13, 0.3, GREATEST // 10), (20, 0.1, 3), (20, 0.3, 0), (20, 1, GREATEST // 10),
        ):
            yard, _ = chance_fit_yard(chance, many, share, slack)
            self.bounds_are(yard, all_bounds(yard.names(), yard.gaps()))

    def test_answers_go_with_the_gaps(self):
        yard = row_yard(["a", "b", "c"], 3)
        self.bound_is(yard, "a", "c", 6)
        yard.put("b", "c", -3)
        self.bound_is(yard, "a", "c", 0)
        yard.take("a", "b")
        self.bound_is(yard, "a", "c", None)

    def test_the_way_told_is_the_askers(self):
        yard = row_yard(["a", "b", "c"], 3)
        told = way(yard, "a", "c")
        told.reverse()
        told.append("d")
        self.assertEqual(way(yard, "a", "c"), ["a", "b", "c"])
        yard.take("a", "b")
        self.assertEqual(told, ["c", "b", "a", "d"])
        alone = way(yard, "b", "b")
        alone.clear()
        self.assertEqual(way(yard, "b", "b"), ["b"])


class RefusedTest(YardCase):
    def setUp(self):
        self.yard = row_yard(["a", "b", "c"], 3)
        self.ringed = yard_with(["a", "b", "c", "d"], [("a", "b", 1), ("c", "d", 1), ("d", "c", -2)])

    def both_refused(self, error, one, other):
        """In a yard with a ring, too."""
        for yard in (self.yard, self.ringed):
            for ask in (bound, way):
                yield self.refused(error, yard, ask, one, other)

    def test_bad_name(self):
        for thing in NO_NAMES:
            for one, other in ((thing, "b"), ("a", thing), (thing, thing)):
                list(self.both_refused(BadName, one, other))

    def test_bad_name_goes_before_no_moment(self):
        for thing in (None, "", "A", [], {}, True, 1):
            for one, other in ((thing, "z"), ("z", thing)):
                list(self.both_refused(BadName, one, other))

    def test_no_moment(self):
        for one, other, which in (
            ("z", "b", "z"), ("a", "z", "z"), ("z", "z", "z"), ("z", "y", "z"), ("y", "z", "y"), ("aa", "a", "aa"),
        ):
            for error in self.both_refused(NoMoment, one, other):
                self.assertEqual(error.name, which)

    def test_a_ring(self):
        # Also where the ring is apart from the moments, where both are one, and where there is no way.
        for one, other in itertools.product("abcd", repeat=2):
            self.refused_by_ring(self.ringed, bound, one, other)
            self.refused_by_ring(self.ringed, way, one, other)

    def test_a_ring_that_comes_and_goes(self):
        self.yard.put("c", "a", -7)
        self.refused_by_ring(self.yard, bound, "a", "b")
        self.yard.put("c", "a", -6)
        self.assertEqual(self.told(self.yard, bound, "a", "b"), 3)
        self.assertEqual(self.told(self.yard, bound, "c", "b"), -3)

    def test_the_ring_told_stays(self):
        ring = self.refused(Ring, self.ringed, bound, "a", "a").ring
        kept = list(ring)
        self.ringed.take("c", "d")
        self.assertEqual(ring, kept)


if __name__ == "__main__":
    unittest.main()
