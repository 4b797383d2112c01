import unittest

from cases import EDGE_RINGS, NO_RINGS, RingCase, some_rings
from gapring.errors import NoNote, NoRing
from gapring.notes import read, shown

SIGNS = "\t\n" + "".join(chr(code) for code in range(32, 127) if chr(code) != "%")

OTHER_MAKE = [
    "", " ", "  ", "\t", "\n", " \n", "-", "x", ".",
    # at either side
    " 1 2 3", "1 2 3 ", "\t1 2 3", "1 2 3\t", "\n1 2 3", "1 2 3\n", "  1 2 3", "1 2 3  ", " 1 2 3 ", "1 2 3 \n",
    # within
    "1  2 3", "1 2  3", "1 2   3", "1\t2 3", "1 2\t3", "1\n2 3", "1 2\n3", "1 \t2 3", "1\t\t2 3", "1\n\n2 3", "1\t2\t3",
    "1\n2\n3",
    # a nought ahead
    "01 2 3", "1 02 3", "1 2 03", "00 1 2", "1 2 00", "000 0 0", "0000 0 0", "0001 2 3", "0 0 0999",
    # a sign, or another mark
    "-1 2 3", "1 -2 3", "1 2 -3", "+1 2 3", "1 +2 3", "-0 0 0", "+0 0 0", "- 1 2 3", "--1 2 3", "1 2 3-",
    "1,2,3", "1, 2, 3", "[1, 2, 3]", "1;2;3", "1.0 2 3", "1e2 2 3", "1_0 2 3", "0x1 2 3", "a b c", "1 2 c", "1 2 3a",
    "~ 1 2", "1 / 2", "1 : 2",
    # more than four figures
    "10000 2 3", "1 10000 3", "1 2 10000", "99999 0 0", "123456789 1 2", "1" * 200, "00000 1 2", "01000 1 2",
]

NO_RING_NOTES = [
    "0", "7", "1000", "1001", "9999", "1 2", "0 0", "1000 1000",
    "1001 0 0", "0 1001 0", "0 0 1001", "9999 0 0", "0 9999 0", "0 0 9999", "1001 1001", "2000 3000 4000",
    " ".join(["0"] * 17), " ".join(["1"] * 18), " ".join(["1000"] * 17), " ".join(["5"] * 100),
    " ".join(["0"] * 15 + ["1001"]), " ".join(["9999"] * 40),
]


class Shown(RingCase):
    """[12]"""

    def test_written_rings(self):
        self.assertEqual(shown([5, 2, 9]), "5 2 9")
        self.assertEqual(shown([0, 0, 0]), "0 0 0")
        self.assertEqual(shown([0, 1000, 10, 100]), "0 1000 10 100")
        self.assertEqual(shown([1000] * 16), "1000" + " 1000" * 15)
        self.assertEqual(shown(list(range(16))), "0 1 2 3 4 5 6 7 8 9 10 11 12 13 14 15")

    def test_it_is_a_text_of_figures_and_single_blanks(self):
        for ring in some_rings() + EDGE_RINGS:
            told = shown(ring)
            with self.subTest(ring=ring):
                self.assertIs(type(told), str)
                self.assertRegex(told, r"\A(0|[1-9][0-9]*)( (0|[1-9][0-9]*))*\Z")

    def test_no_ring_is_not_written(self):
        for ring in NO_RINGS:
            with self.subTest(ring=ring):
                self.assert_refused(NoRing, shown, ring)


class Read(RingCase):
    """[12]"""

    def test_written_texts(self):
        self.assertEqual(read("5 2 9"), [5, 2, 9])
        self.assertEqual(read("0 0 0"), [0, 0, 0])
        self.assertEqual(read("1000 0 999"), [1000, 0, 999])
        self.assertEqual(read("0" + " 1000" * 15), [0] + [1000] * 15)
        self.assertEqual(read("10 100 20 0"), [10, 100, 20, 0])

    def test_what_is_written_is_read_to_the_same_ring(self):
        for ring in some_rings() + some_rings(greatest=20) + EDGE_RINGS:
            told = read(shown(ring))
            with self.subTest(ring=ring):
                self.assertEqual(told, ring)
                self.assertIs(type(told), list)
                self.assertEqual([type(number) for number in told], [int] * len(ring))

    def test_every_number_of_a_ring_is_read(self):
        for number in range(1001):
            with self.subTest(number=number):
                self.assertEqual(read(f"{number} 0 {number}"), [number, 0, number])

    def test_texts_of_another_make_are_refused(self):
        for text in OTHER_MAKE:
            with self.subTest(text=text):
                self.assert_refused(NoNote, read, text)

    def test_every_sign_but_figures_and_the_blank_is_refused(self):
        for sign in SIGNS:
            if sign not in "0123456789 ":
                for text in (sign, f"{sign}1 2 3", f"1 2 3{sign}", f"1{sign}2 3 4", f"1 {sign} 3", f"1 2{sign} 3"):
                    with self.subTest(text=text):
                        self.assert_refused(NoNote, read, text)

    def test_texts_of_this_make_that_write_no_ring_are_refused(self):
        for text in NO_RING_NOTES:
            with self.subTest(text=text):
                self.assert_refused(NoRing, read, text)

    def test_numbers_above_1000_of_four_figures_write_no_ring(self):
        for number in range(1001, 10000):
            self.assert_refused(NoRing, read, f"1 {number} 2")

    def test_no_note_comes_ahead_of_no_ring(self):
        spoilt = [text + end for text in NO_RING_NOTES for end in (" ", "\n", "\t", " x", " 01", " -1", " 10000")]
        spoilt += [start + text for text in NO_RING_NOTES for start in (" ", "\n", "\t", "x ", "01 ", "-1 ", "10000 ")]
        for text in spoilt:
            with self.subTest(text=text):
                self.assert_refused(NoNote, read, text)


if __name__ == "__main__":
    unittest.main()
