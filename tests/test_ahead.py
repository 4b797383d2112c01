import itertools
import unittest

from cases import EDGE_RINGS, RingCase, plain_gaps, some_rings
from gapring.ahead import ahead, parting
from gapring.rings import gaps

# With the reason why no parting comes to the same sum.
NEVER_COME_TO = {
    "an odd sum": [[1, 0, 0], [1, 1, 1], [999, 1000, 1000], [0] * 15 + [1], [1000] * 15 + [999], list(range(2, 16))],
    "one greater than all others": [[10, 1, 1], [0, 2, 0], [1000, 0, 0], [1000] + [1] * 14, [0] * 15 + [1000]],
    "no sum fits": [[2, 2, 2], [6, 4, 4], [1000] * 3, [1000] * 15, [3, 3, 3, 3, 2], [1000] * 13 + [6, 4]],
}

COME_TO = [
    [1, 1, 0],
    [0, 1, 1],
    [1, 0, 1],
    [5, 2, 7],
    [7, 2, 5],
    [1000, 1000, 0],
    [0, 1000, 1000],
    [1000] * 16,
    [3, 3, 2, 2, 2],
    [2, 3, 2, 3, 2],
    [400, 401, 402, 1000, 203],
    [1, 1, 2, 4, 8, 16, 32, 64, 128, 256, 512],
    [512, 1, 256, 2, 128, 4, 64, 8, 32, 16, 1],
    [1, 1, 2, 4, 8, 16, 32, 64, 128, 256, 512, 1000, 1000, 1000, 1000, 0],
    [1000] * 8 + [999] * 8,
    list(range(985, 1001)),
    [1000] + [1] * 14 + [986],
]


def can_be_parted(ring):
    return any(
        2 * sum(number for number, taken in zip(ring, choice) if taken) == sum(ring)
        for choice in itertools.product((False, True), repeat=len(ring))
    )


def small_rings():
    rings = [list(numbers) for size in (3, 4, 5) for numbers in itertools.product((0, 1, 2, 3), repeat=size)]
    return rings + some_rings(greatest=9, each=4)[:28] + some_rings(greatest=1000, each=4)[:24]


class AheadCase(RingCase):
    def assert_parting(self, ring, told):
        self.assertIs(type(told), list)
        self.assertEqual(len(told), len(ring))
        self.assertLessEqual({type(taken) for taken in told}, {bool})
        ones = sum(number for number, taken in zip(ring, told) if taken)
        others = sum(number for number, taken in zip(ring, told) if not taken)
        self.assertEqual(ones, others)

    def assert_row(self, ring, told):
        self.assertIs(type(told), list)
        self.assertEqual([type(number) for number in told], [int] * len(ring))
        self.assertEqual(min(told), 0)
        self.assertEqual(plain_gaps(told), ring)


class Parting(AheadCase):
    """[11]"""

    def test_a_ring_with_but_one_parting(self):
        self.assertIn(parting([5, 2, 7]), ([True, True, False], [False, False, True]))
        self.assertIn(
            parting([400, 401, 402, 1000, 203]),
            ([True, True, True, False, False], [False, False, False, True, True]),
        )

    def test_rings_that_can_have_been_come_to(self):
        for ring in COME_TO:
            with self.subTest(ring=ring):
                self.assert_parting(ring, parting(ring))

    def test_rings_that_cannot(self):
        for reason, rings in NEVER_COME_TO.items():
            for ring in rings:
                with self.subTest(reason=reason, ring=ring):
                    self.assertIsNone(parting(ring))

    def test_noughts_alone_and_one_same_number(self):
        for size in range(3, 17):
            with self.subTest(size=size):
                self.assert_parting([0] * size, parting([0] * size))
                for number in (1, 2, 1000):
                    if size % 2 == 0:
                        self.assert_parting([number] * size, parting([number] * size))
                    else:
                        self.assertIsNone(parting([number] * size))

    def test_there_is_one_just_where_a_choice_of_places_fits(self):
        for ring in small_rings():
            told = parting(ring)
            with self.subTest(ring=ring):
                if can_be_parted(ring):
                    self.assert_parting(ring, told)
                else:
                    self.assertIsNone(told)

    def test_a_place_is_not_taken_twice(self):
        for ring in ([4, 1, 1], [6, 2, 2], [2, 4, 2, 1, 13], [9, 3, 3, 1]):
            self.assertFalse(can_be_parted(ring))
            with self.subTest(ring=ring):
                self.assertIsNone(parting(ring))


class Ahead(AheadCase):
    """[11]"""

    def test_a_ring_with_but_two_rows(self):
        self.assertIn(ahead([5, 2, 7]), ([0, 5, 7], [7, 2, 0]))
        self.assertIn(ahead([0, 1000, 1000]), ([0, 0, 1000], [1000, 1000, 0]))

    def test_the_row_may_be_greater_than_a_ring_is(self):
        told = ahead([400, 401, 402, 1000, 203])
        self.assertIn(told, ([0, 400, 801, 1203, 203], [1203, 803, 402, 0, 1000]))

    def test_rings_that_can_have_been_come_to(self):
        for ring in COME_TO:
            with self.subTest(ring=ring):
                self.assert_row(ring, ahead(ring))

    def test_rings_that_cannot(self):
        for reason, rings in NEVER_COME_TO.items():
            for ring in rings:
                with self.subTest(reason=reason, ring=ring):
                    self.assertIsNone(ahead(ring))

    def test_noughts_alone_come_of_noughts(self):
        for size in range(3, 17):
            with self.subTest(size=size):
                self.assertEqual(ahead([0] * size), [0] * size)

    def test_there_is_a_row_just_where_there_is_a_parting(self):
        for ring in small_rings() + some_rings() + EDGE_RINGS:
            told = ahead(ring)
            with self.subTest(ring=ring):
                if parting(ring) is None:
                    self.assertIsNone(told)
                else:
                    self.assert_row(ring, told)

    def test_every_gap_ring_can_have_been_come_to(self):
        for ring in some_rings() + some_rings(greatest=3) + EDGE_RINGS:
            come_to = gaps(ring)
            with self.subTest(ring=ring):
                self.assert_parting(come_to, parting(come_to))
                self.assert_row(come_to, ahead(come_to))

    def test_no_small_row_is_missed(self):
        come_to = {tuple(plain_gaps(list(row))) for row in itertools.product(range(7), repeat=4)}
        for numbers in itertools.product(range(4), repeat=4):
            with self.subTest(ring=numbers):
                self.assertEqual(ahead(list(numbers)) is not None, numbers in come_to)


if __name__ == "__main__":
    unittest.main()
