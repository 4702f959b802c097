"""Promise 3, of rings alone."""

import itertools
import random
import unittest

from helper import (
    GREATEST, LETTERS, all_three_moment_yards, chance_yard, has_ring, is_ring, tight_yard, yard_round, yard_with,
)

from gapyard.rings import ring
from gapyard.yard import Yard


class RingsTest(unittest.TestCase):
    def some_ring(self, yard):
        """A ring must be told; the yard must stay."""
        gaps = yard.gaps()
        told = ring(yard)
        self.assertIs(type(told), list)
        self.assertTrue(is_ring(yard, told), (told, gaps))
        self.assertEqual(yard.gaps(), gaps)
        return told

    def no_ring(self, yard):
        gaps = yard.gaps()
        self.assertIsNone(ring(yard), gaps)
        self.assertEqual(yard.gaps(), gaps)

    def test_no_gaps(self):
        for many in range(1, 21):
            self.no_ring(Yard(LETTERS[:many]))

    def test_one_gap(self):
        for most in (0, 1, -1, GREATEST, -GREATEST):
            self.no_ring(yard_with(["a", "b"], [("a", "b", most)]))
            self.no_ring(yard_with(["a", "b"], [("b", "a", most)]))

    def test_two_moments(self):
        for there in (0, 1, -1, 7, -7, GREATEST, -GREATEST, GREATEST - 1, 1 - GREATEST):
            for back in (0, 1, -1, 6, -6, 7, -7, GREATEST, -GREATEST):
                yard = yard_with(["a", "b"], [("a", "b", there), ("b", "a", back)])
                if there + back < 0:
                    self.assertEqual(sorted(self.some_ring(yard)), ["a", "b"])
                else:
                    self.no_ring(yard)

    def test_the_direction_of_a_ring(self):
        yard = yard_with(["a", "b", "c"], [("a", "c", -1), ("c", "b", -1), ("b", "a", 1)])
        self.assertIn(self.some_ring(yard), [["a", "c", "b"], ["c", "b", "a"], ["b", "a", "c"]])

    def test_just_nought_and_one_below(self):
        for many in range(2, 21):
            for great in (0, 1, 50, GREATEST):
                mosts = [great if place % 2 else -great for place in range(many)]
                if many % 2:
                    mosts[0] = 0
                with self.subTest((many, great)):
                    self.assertEqual(sum(mosts), 0)
                    self.no_ring(yard_round(LETTERS[:many], mosts))
                    mosts[1] -= 1
                    yard = yard_round(LETTERS[:many], mosts)
                    self.assertEqual(sorted(self.some_ring(yard)), LETTERS[:many])

    def test_a_ring_that_runs_against_the_order(self):
        for many in range(2, 21):
            names = LETTERS[:many]
            yard = yard_with(names, [(one, other, 0) for one, other in zip(names[1:] + names[:1], names)])
            self.no_ring(yard)
            yard.put(names[0], names[-1], -1)
            self.assertEqual(sorted(self.some_ring(yard)), names)

    def test_all_mosts_below_nought_without_a_way_back(self):
        for names in (LETTERS, LETTERS[::-1]):
            gaps = [(one, other, -GREATEST) for one, other in itertools.combinations(LETTERS, 2)]
            self.no_ring(yard_with(names, gaps))

    def test_a_ring_apart_from_the_start(self):
        yard = yard_with(["s", "a", "b", "c"], [("a", "b", 2), ("b", "a", -3), ("s", "c", 4)])
        self.assertEqual(sorted(self.some_ring(yard)), ["a", "b"])

    def test_a_long_tail_behind_a_ring(self):
        for names in (LETTERS, LETTERS[::-1]):
            gaps = [(one, other, -GREATEST) for one, other in zip(LETTERS, LETTERS[1:])]
            yard = yard_with(names, gaps + [("b", "a", GREATEST - 1)])
            self.assertEqual(sorted(self.some_ring(yard)), ["a", "b"])

    def test_a_ring_comes_and_goes_with_the_gaps(self):
        yard = yard_round(["a", "b", "c"], [1, 1, -3])
        self.some_ring(yard)
        yard.put("c", "a", -2)
        self.no_ring(yard)
        yard.put("b", "a", -2)
        self.assertEqual(sorted(self.some_ring(yard)), ["a", "b"])
        yard.take("a", "b")
        self.no_ring(yard)

    def test_all_yards_of_three_moments(self):
        for yard in all_three_moment_yards([None, -1, 0, 1]):
            told = ring(yard)
            if has_ring(yard):
                self.assertTrue(is_ring(yard, told), (told, yard.gaps()))
            else:
                self.assertIsNone(told, yard.gaps())

    def test_yards_of_up_to_five_moments(self):
        chance = random.Random(1)
        for _ in range(1500):
            yard = chance_yard(chance, chance.randint(2, 5), chance.randint(-4, 0), 6)
            if has_ring(yard):
                self.some_ring(yard)
            else:
                self.no_ring(yard)

    def test_as_many_gaps_as_there_may_be(self):
        chance = random.Random(2)
        for many in range(2, 21):
            for size in (3, GREATEST // 2):
                names = chance.sample(LETTERS, many)
                fit = {name: chance.randint(0, size) for name in names}
                yard = tight_yard(fit)
                self.assertEqual(len(yard.gaps()), many * (many - 1))
                # Each way round comes to nought just: whatever gap gives way by one makes rings.
                self.no_ring(yard)
                one, other = chance.sample(names, 2)
                yard.put(one, other, fit[other] - fit[one] - 1)
                told = self.some_ring(yard)
                self.assertIn((one, other), list(zip(told, told[1:] + told[:1])))

    def test_all_380_gaps_at_the_ends(self):
        pairs = list(itertools.permutations(LETTERS, 2))
        self.no_ring(yard_with(LETTERS, [(one, other, GREATEST) for one, other in pairs]))
        self.some_ring(yard_with(LETTERS, [(one, other, -GREATEST) for one, other in pairs]))

    def test_the_ring_told_is_the_askers(self):
        yard = yard_round(["a", "b", "c"], [1, 1, -3])
        told = ring(yard)
        kept = list(told)
        told.clear()
        again = self.some_ring(yard)
        self.assertEqual(sorted(again), sorted(kept))
        yard.take("a", "b")
        self.assertTrue(again)
        self.assertEqual(yard.names(), ["a", "b", "c"])


if __name__ == "__main__":
    unittest.main()
