"""Promise 6: needless gaps and what is pared of a yard, and what they refuse."""

import itertools
import random
import unittest

from helper import (
    GREATEST, LETTERS, NO_NAMES, YardCase, all_bounds, all_three_moment_yards, chance_fit_yard, chance_yard, has_ring,
    length_of, row_yard, tight_yard, tried_bound, yard_round, yard_with,
)

from gapyard.errors import Alike, BadName, NoGap, NoMoment
from gapyard.needs import needless, pared
from gapyard.yard import Yard


def without(gaps, one, other):
    return [gap for gap in gaps if gap[:2] != (one, other)]


def is_needless(bound_of, names, gaps, gap):
    one, other, most = gap
    least = bound_of(names, without(gaps, one, other), one, other)
    return least is not None and least <= most


def pared_by(bound_of, names, gaps):
    """What is pared, as the document tells it."""
    left = list(gaps)
    for gap in gaps:
        if is_needless(bound_of, names, left, gap):
            left.remove(gap)
    return left


def bound_by_all(names, gaps, one, other):
    return all_bounds(names, gaps).get((one, other))


class NeedlessTest(YardCase):
    def needed(self, yard, one, other):
        self.assertIsNone(self.told(yard, needless, one, other), (yard.gaps(), one, other))

    def needless(self, yard, one, other):
        """A way of the others must be told, not longer than the gap."""
        row = self.told(yard, needless, one, other)
        length = length_of(without(yard.gaps(), one, other), row)
        self.assertIsNotNone(length, (yard.gaps(), one, other, row))
        self.assertLessEqual(length, yard.most(one, other))
        self.assertEqual((row[0], row[-1]), (one, other))
        self.assertGreater(len(row), 2)
        return row

    def test_no_other_gap(self):
        self.needed(row_yard(["a", "b"], 5), "a", "b")
        self.needed(yard_with(["a", "b"], [("a", "b", 5), ("b", "a", 5)]), "a", "b")
        self.needed(yard_with(["a", "b", "c"], [("a", "b", 5), ("b", "c", -9), ("c", "b", 9)]), "a", "b")

    def test_a_way_of_just_its_most(self):
        for there, on in ((3, 4), (0, 0), (-3, 2), (3, -9), (GREATEST, -GREATEST), (-1, -1)):
            gaps = [("a", "b", there), ("b", "c", on), ("a", "c", there + on)]
            yard = yard_with(["c", "a", "b"], gaps)
            self.assertEqual(self.needless(yard, "a", "c"), ["a", "b", "c"])
            self.needed(yard, "a", "b")
            self.needed(yard, "b", "c")

    def test_needed_by_one(self):
        for there, on in ((3, 4), (0, 0), (-3, 2), (3, -9), (GREATEST, -GREATEST), (-1, -1)):
            yard = yard_with(["c", "a", "b"], [("a", "b", there), ("b", "c", on), ("a", "c", there + on - 1)])
            self.needed(yard, "a", "c")

    def test_needless_by_far(self):
        gaps = [("a", "b", -GREATEST), ("b", "c", -GREATEST), ("a", "c", GREATEST)]
        self.needless(yard_with(["a", "b", "c"], gaps), "a", "c")

    def test_a_sum_beyond_the_numbers_of_gaps(self):
        self.needed(yard_with(["a", "b", "c"], [("a", "b", GREATEST), ("b", "c", 1), ("a", "c", GREATEST)]), "a", "c")
        yard = row_yard(LETTERS, GREATEST)
        yard.put("a", "t", GREATEST)
        self.needed(yard, "a", "t")
        yard = row_yard(LETTERS, -GREATEST)
        yard.put("a", "t", -GREATEST)
        self.assertEqual(self.needless(yard, "a", "t"), LETTERS)

    def test_a_way_over_many_moments(self):
        for names in (LETTERS, LETTERS[::-1]):
            yard = row_yard(names, 2)
            yard.put(names[0], names[-1], 38)
            self.assertEqual(self.needless(yard, names[0], names[-1]), names)
            yard.put(names[0], names[-1], 37)
            self.needed(yard, names[0], names[-1])

    def test_the_gap_back_does_not_count(self):
        yard = yard_with(["a", "b", "c"], [("b", "a", -1), ("c", "b", 0), ("b", "c", 5), ("a", "b", 7), ("c", "a", 1)])
        self.needed(yard, "a", "b")
        self.needless(yard, "c", "a")

    def test_each_of_two_beside_the_other(self):
        # Both ways round lead over the other one of the two gaps.
        yard = yard_with(["a", "b", "c"], [("a", "b", 1), ("a", "c", 1), ("b", "c", 0), ("c", "b", 0)])
        self.needless(yard, "a", "b")
        self.needless(yard, "a", "c")

    def test_rounds_of_nought(self):
        yard = tight_yard({"a": 3, "b": -3, "c": 0})
        for one, other in itertools.permutations("abc", 2):
            self.needless(yard, one, other)
        two = tight_yard({"a": 3, "b": -3})
        self.needed(two, "a", "b")
        self.needed(two, "b", "a")

    def test_all_yards_of_three_moments(self):
        for yard in all_three_moment_yards([None, -1, 0, 2]):
            for gap in yard.gaps():
                if has_ring(yard):
                    self.refused_by_ring(yard, needless, *gap[:2])
                elif is_needless(tried_bound, yard.names(), yard.gaps(), gap):
                    self.needless(yard, *gap[:2])
                else:
                    self.needed(yard, *gap[:2])

    def test_great_yards(self):
        chance = random.Random(9)
        for many, share, slack in ((6, 0.5, 4), (9, 0.5, GREATEST // 10), (20, 0.1, 4), (11, 1, 2)):
            yard, _ = chance_fit_yard(chance, many, share, slack)
            for gap in yard.gaps():
                if is_needless(bound_by_all, yard.names(), yard.gaps(), gap):
                    self.needless(yard, *gap[:2])
                else:
                    self.needed(yard, *gap[:2])

    def test_the_way_told_is_the_askers(self):
        yard = yard_with(["a", "b", "c"], [("a", "b", 3), ("b", "c", 4), ("a", "c", 7)])
        told = needless(yard, "a", "c")
        told.clear()
        self.assertEqual(needless(yard, "a", "c"), ["a", "b", "c"])
        self.assertEqual(told, [])


class ParedTest(YardCase):
    def pared_is(self, yard, expected):
        told = self.told(yard, pared)
        self.assertIs(type(told), list)
        for gap in told:
            self.assertIs(type(gap), tuple)
        self.assertEqual(told, expected, yard.gaps())

    def pared_well(self, yard):
        """Told as the document says, by bounds that are found otherwise: these stay, and none left is needless."""
        names, gaps = yard.names(), yard.gaps()
        expected = pared_by(bound_by_all, names, gaps)
        self.pared_is(yard, expected)
        self.assertEqual(all_bounds(names, expected), all_bounds(names, gaps))
        left = yard_with(names, expected)
        for one, other, _ in expected:
            self.assertIsNone(needless(left, one, other))

    def test_nothing_to_pare(self):
        self.pared_is(Yard(["a"]), [])
        self.pared_is(Yard(LETTERS), [])
        for most in (0, 1, -1, GREATEST, -GREATEST):
            yard = row_yard(LETTERS, most)
            self.pared_is(yard, yard.gaps())

    def test_one_needless_gap(self):
        yard = yard_with(["a", "b", "c"], [("a", "b", 3), ("b", "c", 4), ("a", "c", 7)])
        self.pared_is(yard, [("a", "b", 3), ("b", "c", 4)])
        yard.put("a", "c", 6)
        self.pared_is(yard, [("a", "b", 3), ("a", "c", 6), ("b", "c", 4)])

    def test_of_two_beside_each_other_the_first_one_goes(self):
        gaps = [("a", "c", 1), ("a", "b", 1), ("b", "c", 0), ("c", "b", 0)]
        self.pared_is(yard_with(["a", "b", "c"], gaps), [("a", "c", 1), ("b", "c", 0), ("c", "b", 0)])
        self.pared_is(yard_with(["a", "c", "b"], gaps), [("a", "b", 1), ("c", "b", 0), ("b", "c", 0)])
        self.pared_is(yard_with(["c", "b", "a"], gaps), [("c", "b", 0), ("b", "c", 0), ("a", "b", 1)])

    def test_the_order_is_that_of_the_gaps_not_of_putting(self):
        gaps = [("c", "b", 0), ("b", "c", 0), ("a", "c", 1), ("a", "b", 1)]
        for order in itertools.permutations(gaps):
            self.pared_is(yard_with(["a", "b", "c"], order), [("a", "c", 1), ("b", "c", 0), ("c", "b", 0)])

    def test_rounds_of_nought(self):
        self.pared_is(tight_yard({"a": 3, "b": -3}), [("a", "b", -6), ("b", "a", 6)])
        self.pared_well(tight_yard({"a": 3, "b": -3, "c": 0}))
        for many in (4, 7, 12):
            yard = tight_yard({name: at * at - 5 * at for at, name in enumerate(LETTERS[:many])})
            self.pared_well(yard)

    def test_as_many_gaps_as_there_may_be(self):
        numbers = {name: at * at - 7 * at for at, name in enumerate(LETTERS)}
        left = self.told(tight_yard(numbers), pared)
        bounds = {(one, other): numbers[other] - numbers[one] for one in LETTERS for other in LETTERS}
        self.assertEqual(all_bounds(LETTERS, left), bounds)
        for one, other, _ in left:
            self.assertIsNone(needless(yard_with(LETTERS, left), one, other))
        all_great = yard_with(LETTERS, [(*pair, GREATEST) for pair in itertools.permutations(LETTERS, 2)])
        self.pared_is(all_great, all_great.gaps())

    def test_all_yards_of_three_moments(self):
        for yard in all_three_moment_yards([None, -1, 0, 2]):
            if has_ring(yard):
                self.refused_by_ring(yard, pared)
            else:
                self.pared_is(yard, pared_by(tried_bound, yard.names(), yard.gaps()))

    def test_yards_of_four_moments(self):
        chance = random.Random(10)
        for _ in range(300):
            yard = chance_yard(chance, 4, chance.randint(-2, 0), 4)
            if not has_ring(yard):
                self.pared_is(yard, pared_by(tried_bound, yard.names(), yard.gaps()))

    def test_great_yards(self):
        chance = random.Random(11)
        for many, share, slack in ((6, 0.5, 4), (8, 0.8, GREATEST // 10), (10, 1, 1), (20, 0.1, 2)):
            yard, _ = chance_fit_yard(chance, many, share, slack)
            self.pared_well(yard)

    def test_the_list_told_is_the_askers(self):
        for gaps in ([("a", "b", 3)], [("a", "b", 3), ("b", "c", 4), ("a", "c", 7)]):
            yard = yard_with(["a", "b", "c"], gaps)
            told = pared(yard)
            kept = list(told)
            told.clear()
            self.assertEqual(yard.gaps(), sorted(gaps))
            self.assertEqual(pared(yard), kept)
            again = pared(yard)
            yard.put("a", "b", 4)
            self.assertEqual(again, kept)


class RefusedTest(YardCase):
    def setUp(self):
        self.yard = yard_with(["a", "b", "c"], [("a", "b", 5), ("b", "a", 0)])
        self.ringed = yard_with(["a", "b", "c", "d"], [("a", "b", 5), ("c", "d", 1), ("d", "c", -2)])

    def needless_refused(self, error, one, other):
        """In a yard with a ring, too."""
        return [self.refused(error, yard, needless, one, other) for yard in (self.yard, self.ringed)]

    def test_bad_name(self):
        for thing in NO_NAMES:
            for one, other in ((thing, "b"), ("a", thing), (thing, thing), (thing, "z"), ("z", thing)):
                self.needless_refused(BadName, one, other)

    def test_no_moment(self):
        for one, other, which in (("z", "b", "z"), ("a", "z", "z"), ("z", "z", "z"), ("z", "y", "z"), ("y", "z", "y")):
            for error in self.needless_refused(NoMoment, one, other):
                self.assertEqual(error.name, which)

    def test_alike(self):
        for name in ("a", "b", "c"):
            self.needless_refused(Alike, name, name)

    def test_no_gap(self):
        for one, other in (("a", "c"), ("c", "a"), ("b", "c"), ("c", "b")):
            self.needless_refused(NoGap, one, other)

    def test_a_ring(self):
        for one, other in (("a", "b"), ("c", "d"), ("d", "c")):
            self.refused_by_ring(self.ringed, needless, one, other)
        self.refused_by_ring(self.ringed, pared)
        self.refused_by_ring(yard_round(["a", "b", "c"], [1, 1, -3]), pared)

    def test_a_ring_of_the_very_gap(self):
        # Without the gap there is no ring, and there is a way of the others.
        yard = yard_with(["a", "b", "c"], [("a", "c", 1), ("c", "b", 1), ("b", "a", -2), ("a", "b", 1)])
        self.refused_by_ring(yard, needless, "a", "b")


if __name__ == "__main__":
    unittest.main()
