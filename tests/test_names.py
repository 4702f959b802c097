"""Promise 1: what is a name and what is a number."""

import string
import unittest

from helper import NO_NAMES, NO_NUMBERS

from gapyard.names import is_name, is_number


class NamesTest(unittest.TestCase):
    def test_names(self):
        for thing in ["a", "z", "m", "az", "abc", "abcdefg", "abcdefgh", "zzzzzzzz", "aaaaaaaa"]:
            with self.subTest(thing):
                self.assertIs(is_name(thing), True)

    def test_each_single_sign(self):
        for code in range(127):
            with self.subTest(code):
                self.assertIs(is_name(chr(code)), chr(code) in string.ascii_lowercase)

    def test_each_sign_at_each_place(self):
        for code in range(127):
            for place in range(8):
                text = "b" * place + chr(code) + "y" * (7 - place)
                self.assertIs(is_name(text), chr(code) in string.ascii_lowercase, text)

    def test_lengths(self):
        for length in range(20):
            with self.subTest(length):
                self.assertIs(is_name("k" * length), 1 <= length <= 8)

    def test_what_is_no_name(self):
        for place, thing in enumerate(NO_NAMES):
            with self.subTest(place):
                self.assertIs(is_name(thing), False)


class NumbersTest(unittest.TestCase):
    def test_numbers(self):
        for thing in [0, 1, -1, 2, 300, -300, 2 ** 63, -(2 ** 64), 10 ** 59, 10 ** 60 - 1, 1 - 10 ** 60]:
            with self.subTest(thing):
                self.assertIs(is_number(thing), True)

    def test_the_ends(self):
        for sign in (1, -1):
            self.assertIs(is_number(sign * 10 ** 60), True)
            self.assertIs(is_number(sign * (10 ** 60 + 1)), False)

    def test_true_and_false_are_none(self):
        self.assertIs(is_number(True), False)
        self.assertIs(is_number(False), False)

    def test_what_is_no_number(self):
        for place, thing in enumerate(NO_NUMBERS):
            with self.subTest(place):
                self.assertIs(is_number(thing), False)

    def test_names_are_no_numbers_and_numbers_no_names(self):
        self.assertIs(is_number("a"), False)
        self.assertIs(is_name(7), False)


if __name__ == "__main__":
    unittest.main()
