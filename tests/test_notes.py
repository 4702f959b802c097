"""Promise 7: notes of yards, and yards read of notes."""

import itertools
import random
import unittest

from helper import GREATEST, LETTERS, OF_NO_USE, YardCase, chance_yard, tight_yard, yard_round, yard_with

from gapyard.errors import BadNote
from gapyard.notes import note_of, yard_of
from gapyard.rings import ring
from gapyard.yard import Yard


class NoteOfTest(YardCase):
    def note_is(self, yard, expected):
        told = self.told(yard, note_of)
        self.assertIs(type(told), str)
        self.assertEqual(told, expected)

    def test_a_yard_without_gaps(self):
        self.note_is(Yard(["a"]), "moments a")
        self.note_is(Yard(["lunch", "end", "start"]), "moments lunch end start")
        self.note_is(Yard(LETTERS), "moments a b c d e f g h i j k l m n o p q r s t")

    def test_rows_of_gaps_in_their_order(self):
        yard = yard_with(["b", "a", "cc"], [("cc", "a", 7), ("b", "cc", 0), ("a", "b", -12), ("b", "a", 30)])
        self.note_is(yard, "moments b a cc\nb a 30\nb cc 0\na b -12\ncc a 7")

    def test_numbers_by_their_figures(self):
        for most, figures in (
            (0, "0"), (-1, "-1"), (1, "1"), (10, "10"), (-100, "-100"), (1234567890, "1234567890"),
            (GREATEST, "1" + 60 * "0"), (-GREATEST, "-1" + 60 * "0"),
            (GREATEST - 1, 60 * "9"), (1 - GREATEST, "-" + 60 * "9"),
        ):
            self.note_is(yard_with(["a", "b"], [("a", "b", most)]), f"moments a b\na b {figures}")

    def test_a_yard_with_a_ring(self):
        self.note_is(yard_round(["a", "b"], [1, -2]), "moments a b\na b 1\nb a -2")

    def test_a_moment_of_the_name_moments(self):
        self.note_is(yard_round(["moments", "a"], [1, 2]), "moments moments a\nmoments a 1\na moments 2")

    def test_notes_go_with_the_gaps(self):
        yard = yard_with(["a", "b"], [("a", "b", 5)])
        told = note_of(yard)
        yard.put("a", "b", 6)
        yard.put("b", "a", 1)
        self.note_is(yard, "moments a b\na b 6\nb a 1")
        yard.take("a", "b")
        self.note_is(yard, "moments a b\nb a 1")
        self.assertEqual(told, "moments a b\na b 5")


class YardOfTest(unittest.TestCase):
    def read(self, text, names, gaps):
        told = yard_of(text)
        self.assertIs(type(told), Yard)
        self.assertEqual(told.names(), names)
        self.assertEqual(told.gaps(), gaps)
        return told

    def test_a_yard_without_gaps(self):
        self.read("moments a", ["a"], [])
        self.read("moments b abcdefgh a", ["b", "abcdefgh", "a"], [])
        self.read("moments " + " ".join(LETTERS[::-1]), LETTERS[::-1], [])

    def test_rows_of_gaps_in_any_order(self):
        rows = ["b a 30", "b cc 0", "a b -12", "cc a 7"]
        gaps = [("b", "a", 30), ("b", "cc", 0), ("a", "b", -12), ("cc", "a", 7)]
        for order in itertools.permutations(rows):
            told = self.read("\n".join(["moments b a cc", *order]), ["b", "a", "cc"], gaps)
            self.assertEqual(note_of(told), "\n".join(["moments b a cc", *rows]))

    def test_numbers(self):
        for figures, most in (
            ("0", 0), ("-1", -1), ("1", 1), ("10", 10), ("-100", -100), ("1234567890", 1234567890),
            ("1" + 60 * "0", GREATEST), ("-1" + 60 * "0", -GREATEST), (60 * "9", GREATEST - 1),
        ):
            told = self.read(f"moments a b\na b {figures}", ["a", "b"], [("a", "b", most)])
            self.assertIs(type(told.most("a", "b")), int)

    def test_a_yard_with_a_ring(self):
        told = self.read("moments a b\na b 1\nb a -2", ["a", "b"], [("a", "b", 1), ("b", "a", -2)])
        self.assertEqual(sorted(ring(told)), ["a", "b"])

    def test_a_moment_of_the_name_moments(self):
        text = "moments moments a\nmoments a 1\na moments 2"
        self.read(text, ["moments", "a"], [("moments", "a", 1), ("a", "moments", 2)])

    def test_there_and_back(self):
        chance = random.Random(12)
        for _ in range(200):
            size = chance.choice([3, 1000, GREATEST])
            yard = chance_yard(chance, chance.randint(1, 20), -size, size)
            self.read(note_of(yard), yard.names(), yard.gaps())
        full = tight_yard({name: at * GREATEST // 40 for at, name in enumerate(LETTERS)})
        self.assertEqual(len(full.gaps()), 380)
        self.read(note_of(full), full.names(), full.gaps())

    def test_the_yard_told_is_the_askers(self):
        first, second = yard_of("moments a b\na b 1"), yard_of("moments a b\na b 1")
        first.put("a", "b", 2)
        first.put("b", "a", 3)
        self.assertEqual(second.gaps(), [("a", "b", 1)])
        self.assertEqual(first.gaps(), [("a", "b", 2), ("b", "a", 3)])


NO_GAP_ROWS = [
    # Empty, or other than three words with one blank between.
    "", " ", "  ", "a", "a b", "a b ", " a b", "a b 1 ", " a b 1", "a  b 1", "a b  1", "a b 1 1", "a b 1 c", "ab 1",
    "a b1", "a\tb 1", "a b\t1", "a b 1\t", "a b 1\r", "\ra b 1", "a b 1\x0b", "a b 1\x0c", "a\x0bb 1", "a b 1\0",
    "a,b,1", "1 a b", "a 1 b", "moments", "moments a b c", "moments a b", "moments a 1", "a moments 1",
    # No numbers.
    "a b c", "a b -0", "a b 00", "a b 01", "a b -01", "a b 000", "a b +1", "a b +0", "a b --1", "a b -", "a b +",
    "a b 1-", "a b - 1", "a b 1.0", "a b 1e3", "a b 1_000", "a b 1,000", "a b 0x1", "a b None", "a b True",
    "a b 1" + 61 * "0", "a b -1" + 61 * "0", "a b 1" + 59 * "0" + "1", "a b -1" + 59 * "0" + "1", "a b 2" + 60 * "0",
    "a b " + 61 * "9", "a b " + 61 * "0", "a b 0" + 60 * "9", "a b 0" + 59 * "9", "a b 01" + 60 * "0",
    "a b " + 3000 * "9", "a b " + 9000 * "9", "a b -" + 9000 * "9",
    # No names, or none that is there.
    "A b 1", "a B 1", "aB b 1", "abcdefghi b 1", "a abcdefghi 1", "1 b 1", "a 1 1", "- b 1", "a_ b 1",
    "z b 1", "a z 1", "z z 1", "aa b 1", "a bb 1",
    # Alike.
    "a a 1", "b b 1", "a a 0", "c c -1",
]

NO_HEADS = [
    "", " ", "moments", "moments ", " moments a b c", "moments  a b c", "moments a  b c", "moments a b c ",
    "moments a b c\t", "moments\ta b c", "moments a b c\r", "moments a\x0bb c", "Moments a b c", "MOMENTS a b c",
    "moment a b c", "momentsa b c", "a b c", "a b 1", "moments a b a", "moments a a", "moments b a a c", "moments A",
    "moments a B c", "moments a 1", "moments abcdefghi", "moments a b-c", "moments a,b,c", "moments a b c 1",
    "moments -", "moments: a b c", "c a b moments",
    "moments " + " ".join(LETTERS) + " u", "moments " + " ".join(LETTERS) + " a",
]


class RefusedTest(unittest.TestCase):
    def refused(self, row, text):
        shown = repr(text[:200]) if type(text) is str else "no text"
        with self.assertRaises(BadNote, msg=shown) as caught:
            yard_of(text)
        self.assertIs(type(caught.exception), BadNote)
        self.assertIs(type(caught.exception.row), int)
        self.assertEqual(caught.exception.row, row, shown)

    def test_no_text(self):
        for thing in OF_NO_USE + [0, 1, ["moments a"], ("moments a",), b"moments a", {"moments a": True}]:
            self.refused(1, thing)

    def test_the_first_row(self):
        for head in NO_HEADS:
            for rest in ("", "\na b 1", "\na b x", "\n", "\n\n\n"):
                self.refused(1, head + rest)

    def test_a_row_of_a_gap(self):
        for row in NO_GAP_ROWS:
            self.refused(2, f"moments a b c\n{row}")
            self.refused(2, f"moments a b c\n{row}\nb c 2")
            self.refused(3, f"moments a b c\nb c 2\n{row}")
            self.refused(4, f"moments a b c\nb c 2\nb a -2\n{row}\nc a 1")

    def test_a_row_twice(self):
        self.refused(3, "moments a b c\na b 1\na b 1")
        self.refused(3, "moments a b c\na b 1\na b 2")
        self.refused(3, "moments a b c\na b 0\na b 0")
        self.refused(5, "moments a b c\na b 1\nb a 1\nb c 1\na b 1\nb a 1")
        self.refused(4, "moments a b c\nc a 1\nb a 1\nc a -1")

    def test_a_line_end_behind_the_last_row(self):
        self.refused(2, "moments a b\n")
        self.refused(3, "moments a b\na b 1\n")
        self.refused(3, "moments a b\na b 1\n\n")
        self.refused(382, note_of(tight_yard({name: at for at, name in enumerate(LETTERS)})) + "\n")

    def test_a_line_end_ahead(self):
        self.refused(1, "\nmoments a b")
        self.refused(1, "\n\n")

    def test_other_line_ends(self):
        self.refused(1, "moments a b\r\na b 1")
        self.refused(2, "moments a b\na b 1\r\nb a 1")
        self.refused(1, "moments a b\ra b 1")
        self.refused(1, "moments a b\x0ba b 1")
        self.refused(1, "moments a b\x1ca b 1\nx")

    def test_the_first_wrong_row_is_told(self):
        self.refused(2, "moments a b\na b\nx\n")
        self.refused(3, "moments a b\na b 1\na a 1\na b 1")
        self.refused(3, "moments a b\na b 1\na b 1\na z 1")
        self.refused(1, "moments a a\na b -0")
        self.refused(4, "moments a b c\na b 1\nb a 1\nb c 00\nb a 1")

    def test_a_name_that_only_a_later_row_has(self):
        self.refused(2, "moments a b\na c 1\nmoments a b c")

    def test_a_note_with_one_sign_otherwise(self):
        # Whatever is read must be a note told again but for the order of its rows.
        text = "moments a b\na b 10\nb a -9"
        for at, code in itertools.product(range(len(text) + 1), range(127)):
            ahead, behind = text[:at], text[at + 1:]
            for other in (ahead + chr(code) + text[at:], ahead + chr(code) + behind, ahead + behind):
                try:
                    told = note_of(yard_of(other))
                except BadNote as error:
                    self.assertIn(error.row, range(1, other.count("\n") + 2))
                else:
                    self.assertEqual(sorted(told.split("\n")), sorted(other.split("\n")))
                    self.assertEqual(told.split("\n")[0], other.split("\n")[0])


if __name__ == "__main__":
    unittest.main()
