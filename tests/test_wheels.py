import itertools
import unittest

from cases import EDGE_RINGS, RingCase, plain_gaps, some_rings
from gapring.errors import NoSize
from gapring.rings import after, contrary, gaps, turned
from gapring.wheels import great_wheel, is_flat, tail_and_wheel, to_noughts

GREAT = {
    3: (1, 3),
    4: (4, 1),
    5: (1, 15),
    6: (2, 6),
    7: (1, 7),
    8: (8, 1),
    9: (1, 63),
    10: (2, 30),
    11: (1, 341),
    12: (4, 12),
    13: (1, 819),
    14: (2, 14),
    15: (1, 15),
    16: (16, 1),
}

SLOW_RINGS = [
    [0, 1, 1000],
    [0, 999, 1000],
    [0] * 7 + [1, 1000],
    [0] * 10 + [1, 1000],
    [0] * 13 + [1, 1000],
    [0] * 14 + [1, 1000],
]


def bit_rings(sizes):
    return [list(bits) for size in sizes for bits in itertools.product((0, 1), repeat=size)]


def rings_to_try():
    by_chance = some_rings(each=4) + some_rings(greatest=9, each=3) + some_rings(greatest=1, each=3)
    return by_chance + EDGE_RINGS + SLOW_RINGS


def plain_rows(ring):
    """The ring and all behind it, up to the first that has been there already, this one too."""
    rows = [ring]
    seen = set()
    while tuple(rows[-1]) not in seen:
        seen.add(tuple(rows[-1]))
        rows.append(plain_gaps(rows[-1]))
    return rows


def plain_flat(ring):
    return len(set(ring) - {0}) <= 1


class Flat(RingCase):
    """[5]"""

    def test_flat_rings(self):
        flat = [[0, 0, 0], [0] * 16, [7, 7, 7], [1000] * 16, [0, 5, 0], [5, 0, 5, 5], [0] * 15 + [1000], [1, 0, 1]]
        for ring in flat:
            with self.subTest(ring=ring):
                self.assertIs(is_flat(ring), True)

    def test_rings_that_are_not_flat(self):
        for ring in [[1, 2, 1], [0, 1, 2], [2, 1, 0], [999, 1000, 1000], [1000] * 15 + [999], [1] + [0] * 14 + [2]]:
            with self.subTest(ring=ring):
                self.assertIs(is_flat(ring), False)

    def test_small_rings(self):
        for size in (3, 4):
            for numbers in itertools.product((0, 1, 2, 1000), repeat=size):
                with self.subTest(ring=numbers):
                    self.assertIs(is_flat(list(numbers)), plain_flat(numbers))

    def test_one_other_number_at_any_place_is_told(self):
        for size in (3, 8, 16):
            for place in range(size):
                for number in (0, 1, 499, 501, 1000):
                    ring = [500] * size
                    ring[place] = number
                    with self.subTest(size=size, place=place, number=number):
                        self.assertIs(is_flat(ring), number == 0)

    def test_every_ring_comes_to_a_flat_one_and_stays_so(self):
        for ring in rings_to_try():
            told = [is_flat(row) for row in plain_rows(ring)]
            with self.subTest(ring=ring):
                self.assertIn(True, told)
                self.assertNotIn(False, told[told.index(True):])


class TailAndWheel(RingCase):
    """[6]"""

    def test_written_rings(self):
        self.assertEqual(tail_and_wheel([1, 0, 0]), (1, 3))
        self.assertEqual(tail_and_wheel([1, 0, 1]), (0, 3))
        self.assertEqual(tail_and_wheel([8, 3, 1, 6]), (3, 1))
        self.assertEqual(tail_and_wheel([1, 1, 1]), (1, 1))
        self.assertEqual(tail_and_wheel([0, 1, 1000]), (1000, 3))

    def test_noughts_come_again_at_once(self):
        for size in range(3, 17):
            with self.subTest(size=size):
                self.assertEqual(tail_and_wheel([0] * size), (0, 1))

    def test_one_same_number_comes_to_noughts_by_one_turn(self):
        for size in range(3, 17):
            for number in (1, 500, 1000):
                with self.subTest(size=size, number=number):
                    self.assertEqual(tail_and_wheel([number] * size), (1, 1))

    def test_it_is_a_tuple_of_two_whole_numbers(self):
        for ring in EDGE_RINGS + [[1, 0, 1], [8, 3, 1, 6]]:
            told = tail_and_wheel(ring)
            with self.subTest(ring=ring):
                self.assertIs(type(told), tuple)
                self.assertEqual([type(number) for number in told], [int, int])

    def test_many_rings_turn_by_turn(self):
        for ring in rings_to_try() + bit_rings((3, 4, 5, 6, 7)):
            rows = plain_rows(ring)
            tail = rows.index(rows[-1])
            with self.subTest(ring=ring):
                self.assertEqual(tail_and_wheel(ring), (tail, len(rows) - 1 - tail))

    def test_turned_round_it_has_the_same_tail_and_wheel(self):
        for ring in some_rings(each=2) + [[1, 0, 0], [1, 0, 1, 0, 0]]:
            for by in (1, 2, -1):
                with self.subTest(ring=ring, by=by):
                    self.assertEqual(tail_and_wheel(turned(ring, by)), tail_and_wheel(ring))

    def test_the_wheel_counts_the_ring_itself_not_one_turned_round(self):
        # Turned by one place [1, 0, 1] is come to at once, but the ring itself behind three turns alone.
        self.assertEqual(gaps([1, 0, 1]), turned([1, 0, 1], -1))
        self.assertEqual(tail_and_wheel([1, 0, 1]), (0, 3))

    def test_one_turn_more_shortens_the_tail_by_one(self):
        for ring in some_rings(each=3):
            tail, wheel = tail_and_wheel(ring)
            with self.subTest(ring=ring):
                self.assertEqual(tail_and_wheel(gaps(ring)), (max(tail - 1, 0), wheel))
                self.assertEqual(tail_and_wheel(after(ring, tail + 5)), (0, wheel))


class ToNoughts(RingCase):
    """[7]"""

    def test_written_rings(self):
        self.assertEqual(to_noughts([8, 3, 1, 6]), 3)
        self.assertEqual(to_noughts([1, 0, 0, 0]), 4)
        self.assertEqual(to_noughts([1] + [0] * 7), 8)
        self.assertEqual(to_noughts([0] * 15 + [1000]), 16)
        self.assertEqual(to_noughts([0, 1000] * 8), 2)
        self.assertEqual(to_noughts([0, 0, 1, 1, 0, 0]), None)
        self.assertEqual(to_noughts([0, 1, 0, 1, 0, 1]), 2)

    def test_noughts_are_there_behind_no_turns(self):
        for size in range(3, 17):
            with self.subTest(size=size):
                self.assertEqual(to_noughts([0] * size), 0)
                self.assertIs(type(to_noughts([0] * size)), int)

    def test_one_same_number_comes_to_noughts_by_one_turn(self):
        for size in range(3, 17):
            with self.subTest(size=size):
                self.assertEqual(to_noughts([1] * size), 1)
                self.assertEqual(to_noughts([1000] * size), 1)

    def test_every_ring_of_4_or_8_or_16_comes_to_noughts(self):
        rings = [ring for ring in rings_to_try() if len(ring) in (4, 8, 16)]
        for ring in rings + bit_rings((4, 8)):
            turns = to_noughts(ring)
            with self.subTest(ring=ring):
                self.assertIs(type(turns), int)
                self.assertEqual(max(after(ring, turns)), 0)
                if turns > 0:
                    self.assertGreater(max(after(ring, turns - 1)), 0)

    def test_rings_of_other_sizes_that_do_not(self):
        for size in (3, 5, 6, 7, 9, 10, 11, 12, 13, 14, 15):
            with self.subTest(size=size):
                self.assertIsNone(to_noughts([1] + [0] * (size - 1)))
                self.assertIsNone(to_noughts([0] * (size - 1) + [1000]))

    def test_many_rings_turn_by_turn(self):
        for ring in rings_to_try() + bit_rings((3, 4, 5, 6, 7, 9)):
            rows = plain_rows(ring)
            noughts = [0] * len(ring)
            expected = rows.index(noughts) if noughts in rows else None
            with self.subTest(ring=ring):
                self.assertEqual(to_noughts(ring), expected)

    def test_the_contrary_ring_comes_to_noughts_alike(self):
        for ring in some_rings(each=2) + bit_rings((4, 6)):
            with self.subTest(ring=ring):
                self.assertEqual(to_noughts(contrary(ring)), to_noughts(ring))


class GreatWheel(RingCase):
    """[8]"""

    def test_every_size(self):
        for size, great in GREAT.items():
            told = great_wheel(size)
            with self.subTest(size=size):
                self.assertEqual(told, great)
                self.assertIs(type(told), tuple)
                self.assertEqual([type(number) for number in told], [int, int])

    def test_it_is_the_tail_and_wheel_of_a_one_and_noughts(self):
        for size in range(3, 17):
            with self.subTest(size=size):
                self.assertEqual(great_wheel(size), tail_and_wheel([1] + [0] * (size - 1)))

    def test_every_wheel_goes_into_the_great_wheel(self):
        for ring in rings_to_try() + bit_rings((3, 4, 5, 6, 7, 8)):
            with self.subTest(ring=ring):
                self.assertEqual(great_wheel(len(ring))[1] % tail_and_wheel(ring)[1], 0)

    def test_other_sizes_are_refused(self):
        for size in (2, 1, 0, -1, -3, -16, -(10 ** 40), 17, 18, 32, 1000, 10 ** 12, 10 ** 40):
            with self.subTest(size=size):
                self.assert_refused(NoSize, great_wheel, size)


if __name__ == "__main__":
    unittest.main()
