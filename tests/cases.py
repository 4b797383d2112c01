"""What several of the test files need: rings, lists that are none, and a plain reckoning of gaps."""

import random
import unittest

from gapring.rings import after, contrary, gaps, turned

MOST_TURNS = 10 ** 40 - 1

NO_RINGS = [
    [],
    [0],
    [0, 1],
    [0] * 17,
    [1000] * 17,
    list(range(40)),
    [-1, 0, 0],
    [0, -1, 0],
    [0, 0, -1],
    [1001, 0, 0],
    [0, 1001, 0],
    [0, 0, 1001],
    [0] * 15 + [-1],
    [0] * 15 + [1001],
    [-1] * 16,
    [10 ** 30, 0, 0],
    [-(10 ** 30), 0, 0],
    [-1, 1001, 0],
]

EDGE_RINGS = [
    [0, 0, 0],
    [1000, 1000, 1000],
    [0, 1000, 0],
    [0] * 16,
    [1000] * 16,
    [0] * 15 + [1000],
    [1000] + [0] * 15,
    list(range(985, 1001)),
]

# What tells a ring for one, with its other argument at an ordinary and at an edge value.
RING_CALLS = {
    "gaps": lambda ring: gaps(ring),
    "after none": lambda ring: after(ring, 0),
    "after one": lambda ring: after(ring, 1),
    "after some": lambda ring: after(ring, 5),
    "after most": lambda ring: after(ring, MOST_TURNS),
    "turned by none": lambda ring: turned(ring, 0),
    "turned by a round": lambda ring: turned(ring, len(ring)),
    "turned by some": lambda ring: turned(ring, 2),
    "turned back": lambda ring: turned(ring, -1),
    "contrary": lambda ring: contrary(ring),
}


def some_rings(greatest=1000, each=6):
    chance = random.Random(7)
    return [
        [chance.randint(0, greatest) for place in range(size)]
        for size in range(3, 17)
        for number in range(each)
    ]


def plain_gaps(ring):
    following = ring[1:] + ring[:1]
    return [max(a, b) - min(a, b) for a, b in zip(ring, following)]


class RingCase(unittest.TestCase):
    def assert_refused(self, refusal, call, *args):
        before = [list(arg) if isinstance(arg, list) else arg for arg in args]
        with self.assertRaises(refusal) as caught:
            call(*args)
        self.assertIs(type(caught.exception), refusal)
        self.assertEqual(list(args), before)
