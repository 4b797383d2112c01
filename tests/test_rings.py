import itertools
import unittest

from cases import EDGE_RINGS, MOST_TURNS, NO_RINGS, RING_CALLS, RingCase, plain_gaps, some_rings
from gapring.errors import NoBits, NoRing, Unlike
from gapring.rings import after, contrary, gaps, mixed, turned


def plain_after(ring, turns):
    """Goes turn by turn, and by whole wheels as soon as a ring comes again."""
    rows = [ring]
    seen = {tuple(ring): 0}
    while len(rows) <= turns:
        row = plain_gaps(rows[-1])
        if tuple(row) in seen:
            tail = seen[tuple(row)]
            return rows[tail + (turns - tail) % (len(rows) - tail)]
        seen[tuple(row)] = len(rows)
        rows.append(row)
    return rows[turns]


class WhatARingIs(RingCase):
    """[2]"""

    def test_every_size_from_3_to_16_is_taken(self):
        for name, call in RING_CALLS.items():
            for size in range(3, 17):
                with self.subTest(call=name, size=size):
                    self.assertEqual(len(call([1] * size)), size)

    def test_rings_at_the_edges_are_taken(self):
        for name, call in RING_CALLS.items():
            for ring in EDGE_RINGS:
                with self.subTest(call=name, ring=ring):
                    self.assertEqual(len(call(ring)), len(ring))


class GapRings(RingCase):
    """[3]"""

    def test_gaps_of_written_rings(self):
        self.assertEqual(gaps([5, 2, 9]), [3, 7, 4])
        self.assertEqual(gaps([0, 1000, 3]), [1000, 997, 3])
        self.assertEqual(gaps([7, 7, 7, 7]), [0, 0, 0, 0])
        self.assertEqual(gaps([1, 0, 0, 0, 0]), [1, 0, 0, 0, 1])
        self.assertEqual(gaps(list(range(0, 16))), [1] * 15 + [15])

    def test_gaps_at_the_edges(self):
        self.assertEqual(gaps([1000] + [0] * 15), [1000] + [0] * 14 + [1000])
        self.assertEqual(gaps([0] * 15 + [1000]), [0] * 14 + [1000, 1000])
        self.assertEqual(gaps([0, 1000] * 8), [1000] * 16)

    def test_gaps_of_many_rings(self):
        for ring in some_rings():
            with self.subTest(ring=ring):
                self.assertEqual(gaps(ring), plain_gaps(ring))

    def test_no_gap_is_greater_than_the_greatest_number(self):
        for ring in some_rings() + EDGE_RINGS:
            with self.subTest(ring=ring):
                self.assertLessEqual(max(gaps(ring)), max(ring))
                self.assertGreaterEqual(min(gaps(ring)), 0)


class RingsBehindTurns(RingCase):
    """[3]"""

    def test_behind_no_turns_it_is_the_ring_itself(self):
        for ring in some_rings() + EDGE_RINGS:
            with self.subTest(ring=ring):
                self.assertEqual(after(ring, 0), ring)

    def test_turns_of_a_written_ring(self):
        rows = [[8, 3, 1, 6], [5, 2, 5, 2], [3, 3, 3, 3], [0, 0, 0, 0], [0, 0, 0, 0]]
        for turns, row in enumerate(rows):
            with self.subTest(turns=turns):
                self.assertEqual(after(rows[0], turns), row)

    def test_each_turn_more_is_the_gap_ring_of_the_one_ahead(self):
        for ring in some_rings(each=3) + some_rings(greatest=1, each=3) + EDGE_RINGS:
            ahead = ring
            for turns in range(1, 80):
                ahead = plain_gaps(ahead)
                with self.subTest(ring=ring, turns=turns):
                    self.assertEqual(after(ring, turns), ahead)

    def test_written_rings_behind_most_turns(self):
        # [1, 0, 0] comes to a wheel of 3 turns behind the first; the turns are a whole many of 3.
        self.assertEqual(after([1, 0, 0], MOST_TURNS), [0, 1, 1])
        self.assertEqual(after([1, 0, 0], MOST_TURNS - 1), [1, 1, 0])
        self.assertEqual(after([1, 0, 0], MOST_TURNS - 2), [1, 0, 1])
        self.assertEqual(after([1000, 0, 0], MOST_TURNS), [0, 1000, 1000])
        self.assertEqual(after([0] * 15 + [1000], MOST_TURNS), [0] * 16)

    def test_great_numbers_of_turns(self):
        many = [100, 1000, 12345, 2 ** 64, 2 ** 64 - 1, 10 ** 20 + 7, 10 ** 39, MOST_TURNS - 1, MOST_TURNS]
        rings = some_rings(each=3) + some_rings(greatest=1, each=3) + some_rings(greatest=9, each=2) + EDGE_RINGS
        for ring in rings:
            for turns in many:
                with self.subTest(ring=ring, turns=turns):
                    self.assertEqual(after(ring, turns), plain_after(ring, turns))

    def test_a_ring_that_is_long_in_becoming_flat(self):
        for ring in ([0, 1, 1000], [0, 999, 1000], [0] * 13 + [1, 1000], [0] * 12 + [1, 1000]):
            for turns in (1, 500, 1000, 1499, 1500, 5000, 10 ** 5, MOST_TURNS):
                with self.subTest(ring=ring, turns=turns):
                    self.assertEqual(after(ring, turns), plain_after(ring, turns))


class TurnedAndContrary(RingCase):
    """[4]"""

    def test_turned_by_written_numbers(self):
        ring = [10, 20, 30, 40]
        self.assertEqual(turned(ring, 0), [10, 20, 30, 40])
        self.assertEqual(turned(ring, 1), [20, 30, 40, 10])
        self.assertEqual(turned(ring, 2), [30, 40, 10, 20])
        self.assertEqual(turned(ring, 3), [40, 10, 20, 30])
        self.assertEqual(turned(ring, -1), [40, 10, 20, 30])
        self.assertEqual(turned(ring, -3), [20, 30, 40, 10])

    def test_turned_by_whole_rounds_is_the_ring_itself(self):
        for ring in some_rings(each=2) + EDGE_RINGS:
            for rounds in (-(10 ** 50), -2, -1, 0, 1, 2, 10 ** 50):
                with self.subTest(ring=ring, rounds=rounds):
                    self.assertEqual(turned(ring, rounds * len(ring)), ring)

    def test_turned_by_very_great_numbers(self):
        ring = [1, 2, 3, 4, 5]
        self.assertEqual(turned(ring, 10 ** 60 + 1), [2, 3, 4, 5, 1])
        self.assertEqual(turned(ring, -(10 ** 60) - 1), [5, 1, 2, 3, 4])
        self.assertEqual(turned([1, 2, 3], 10 ** 40), [2, 3, 1])

    def test_each_place_has_what_lies_so_many_behind(self):
        for ring in some_rings(each=1):
            size = len(ring)
            for by in range(-2 * size - 1, 2 * size + 2):
                told = turned(ring, by)
                with self.subTest(ring=ring, by=by):
                    self.assertEqual(told, [ring[(k + by) % size] for k in range(size)])

    def test_contrary_of_written_rings(self):
        self.assertEqual(contrary([1, 2, 3]), [3, 2, 1])
        self.assertEqual(contrary([0, 1000, 5, 5]), [5, 5, 1000, 0])
        self.assertEqual(contrary(list(range(16))), list(range(15, -1, -1)))

    def test_contrary_twice_is_the_ring_itself(self):
        for ring in some_rings():
            with self.subTest(ring=ring):
                self.assertEqual(contrary(contrary(ring)), ring)


class Mixed(RingCase):
    """[9]"""

    def test_written_rings(self):
        self.assertEqual(mixed([0, 0, 1, 1], [0, 1, 0, 1]), [0, 1, 1, 0])
        self.assertEqual(mixed([1, 1, 1], [0, 0, 0]), [1, 1, 1])
        self.assertEqual(mixed([1, 0, 1], [1, 0, 1]), [0, 0, 0])
        self.assertEqual(mixed([1] * 16, [0, 1] * 8), [1, 0] * 8)

    def test_one_just_where_they_are_unlike(self):
        for size in (3, 4, 5):
            for one in itertools.product((0, 1), repeat=size):
                for other in itertools.product((0, 1), repeat=size):
                    told = mixed(list(one), list(other))
                    self.assertEqual(told, [1 if a != b else 0 for a, b in zip(one, other)])

    def test_gaps_of_the_mixed_are_the_gaps_mixed(self):
        rings = some_rings(greatest=1)
        for one, other in zip(rings, rings[1:]):
            if len(one) == len(other):
                with self.subTest(one=one, other=other):
                    self.assertEqual(gaps(mixed(one, other)), mixed(gaps(one), gaps(other)))

    def test_no_ring_comes_ahead_of_all_else(self):
        for wrong in NO_RINGS:
            for ring in ([0, 1, 0], [0, 2, 0], [1] * 16, [1000] * 16):
                with self.subTest(wrong=wrong, ring=ring):
                    self.assert_refused(NoRing, mixed, wrong, ring)
                    self.assert_refused(NoRing, mixed, ring, wrong)
            with self.subTest(wrong=wrong):
                self.assert_refused(NoRing, mixed, wrong, [0, 0])
                self.assert_refused(NoRing, mixed, wrong, list(wrong))

    def test_unlike_sizes_are_refused(self):
        for one, other in itertools.permutations(range(3, 17), 2):
            with self.subTest(one=one, other=other):
                self.assert_refused(Unlike, mixed, [1] * one, [1] * other)

    def test_unlike_comes_ahead_of_no_bits(self):
        for one, other in ([2, 0, 0], [0] * 4), ([0] * 4, [2, 0, 0]), ([2] * 3, [1000] * 16), ([9] * 16, [0] * 15):
            with self.subTest(one=one, other=other):
                self.assert_refused(Unlike, mixed, one, other)

    def test_other_numbers_are_refused(self):
        for size in (3, 16):
            for place in range(size):
                for number in (2, 3, 1000):
                    ring = [0] * size
                    ring[place] = number
                    with self.subTest(size=size, place=place, number=number):
                        self.assert_refused(NoBits, mixed, ring, [1] * size)
                        self.assert_refused(NoBits, mixed, [1] * size, ring)
                        self.assert_refused(NoBits, mixed, ring, list(ring))


class BehindPowersOfTwo(RingCase):
    """[10]"""

    def test_a_written_ring(self):
        ring = [1, 0, 0, 1, 0]
        self.assertEqual(after(ring, 1), [1, 0, 1, 1, 1])
        self.assertEqual(after(ring, 2), [1, 1, 0, 0, 0])
        self.assertEqual(after(ring, 4), [1, 1, 0, 1, 1])
        self.assertEqual(after(ring, 8), [0, 0, 1, 1, 0])

    def test_it_is_the_ring_mixed_with_itself_turned(self):
        turns = 1
        while turns <= MOST_TURNS:
            for ring in some_rings(greatest=1, each=2):
                with self.subTest(ring=ring, turns=turns):
                    self.assertEqual(after(ring, turns), mixed(ring, turned(ring, turns)))
            turns *= 2

    def test_small_rings_turn_by_turn(self):
        for size in (3, 4, 5, 6, 7):
            for bits in itertools.product((0, 1), repeat=size):
                ring = list(bits)
                now = ring
                for turns in range(1, 65):
                    now = plain_gaps(now)
                    if turns in (1, 2, 4, 8, 16, 32, 64):
                        self.assertEqual(mixed(ring, turned(ring, turns)), now)
                        self.assertEqual(after(ring, turns), now)


class MixedKeepsNothing(RingCase):
    """[1]; of the functions that are handed one ring, test_whole.py tells."""

    def test_mixed_changes_and_keeps_nothing(self):
        one, other = [0, 1, 1], [1, 1, 0]
        told = mixed(one, other)
        self.assertEqual((one, other), ([0, 1, 1], [1, 1, 0]))
        one[0] = 1
        other.append(0)
        self.assertEqual(told, [1, 0, 1])
        told[0] = 999
        self.assertEqual((one, other), ([1, 1, 1], [1, 1, 0, 0]))
        self.assertEqual(mixed([0, 1, 1], [1, 1, 0]), [1, 0, 1])

    def test_one_list_mixed_with_itself(self):
        ring = [0, 1, 1]
        told = mixed(ring, ring)
        told[0] = 999
        self.assertEqual(ring, [0, 1, 1])
        self.assertEqual(mixed(ring, ring), [0, 0, 0])


if __name__ == "__main__":
    unittest.main()
