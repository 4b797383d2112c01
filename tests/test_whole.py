"""What is promised over the whole program: [1] and [2], of every function that is handed one ring."""

import inspect
import unittest

from cases import EDGE_RINGS, NO_RINGS, RING_CALLS, RingCase, some_rings
from gapring import ahead, errors, notes, rings, wheels
from gapring.errors import NoRing, NoSize

CALLS = dict(RING_CALLS)
CALLS.update({
    "is_flat": wheels.is_flat,
    "tail_and_wheel": wheels.tail_and_wheel,
    "to_noughts": wheels.to_noughts,
    "parting": ahead.parting,
    "ahead": ahead.ahead,
    "shown": notes.shown,
    "read": lambda ring: notes.read(" ".join([str(number) for number in ring])),
})
HANDED_RINGS = {name: call for name, call in CALLS.items() if name != "read"}

RINGS = [[5, 2, 9], [5, 2, 7], [1, 0, 1], [0, 0, 0], [7, 7, 7, 7], [8, 3, 1, 6], list(range(16))]

INTERFACE = [
    (rings.gaps, ["ring"]),
    (rings.after, ["ring", "turns"]),
    (rings.turned, ["ring", "by"]),
    (rings.contrary, ["ring"]),
    (rings.mixed, ["one", "other"]),
    (wheels.is_flat, ["ring"]),
    (wheels.tail_and_wheel, ["ring"]),
    (wheels.to_noughts, ["ring"]),
    (wheels.great_wheel, ["size"]),
    (ahead.parting, ["ring"]),
    (ahead.ahead, ["ring"]),
    (notes.shown, ["ring"]),
    (notes.read, ["text"]),
]


def copied(told):
    return list(told) if isinstance(told, list) else told


def spoil(told):
    if isinstance(told, list):
        told[0] = 999
        told.append(4)


class TheInterface(RingCase):
    def test_the_arguments_stand_under_their_names(self):
        for function, names in INTERFACE:
            with self.subTest(function=function.__name__):
                self.assertEqual(list(inspect.signature(function).parameters), names)


class OnlyRings(RingCase):
    """[2]"""

    def test_another_list_is_refused(self):
        for name, call in HANDED_RINGS.items():
            for ring in NO_RINGS:
                with self.subTest(call=name, ring=ring):
                    self.assert_refused(NoRing, call, ring)

    def test_a_wrong_number_is_refused_at_each_place(self):
        for name, call in HANDED_RINGS.items():
            for size in (3, 9, 16):
                for place in range(size):
                    for wrong in (-1, 1001):
                        ring = [500] * size
                        ring[place] = wrong
                        with self.subTest(call=name, size=size, place=place, wrong=wrong):
                            self.assert_refused(NoRing, call, ring)

    def test_rings_are_not_refused(self):
        for name, call in CALLS.items():
            for ring in some_rings(each=2) + EDGE_RINGS + [[1] * size for size in range(3, 17)]:
                with self.subTest(call=name, ring=ring):
                    try:
                        call(ring)
                    except errors.RingError as refusal:
                        self.fail(f"{ring} is refused: {refusal!r}")


class NothingHangsOnWhatIsHandedIn(RingCase):
    """[1]"""

    def test_what_is_handed_in_stays_as_it_was(self):
        for name, call in CALLS.items():
            for ring in RINGS + EDGE_RINGS + some_rings(each=1):
                handed = list(ring)
                call(handed)
                with self.subTest(call=name, ring=ring):
                    self.assertEqual(handed, ring)

    def test_what_is_handed_in_may_be_changed_later(self):
        for name, call in CALLS.items():
            for ring in RINGS:
                handed = list(ring)
                told = call(handed)
                kept = copied(told)
                handed[0] = 999
                handed.append(4)
                with self.subTest(call=name, ring=ring):
                    self.assertEqual(told, kept)
                    self.assertEqual(call(list(ring)), kept)

    def test_a_ring_changed_later_is_told_of_anew(self):
        for name, call in CALLS.items():
            for ring in RINGS:
                handed = list(ring)
                call(handed)
                handed[1] = 700
                handed[2] = 3
                with self.subTest(call=name, ring=ring):
                    self.assertEqual(call(handed), call(ring[:1] + [700, 3] + ring[3:]))

    def test_a_list_that_becomes_no_ring_is_refused(self):
        for name, call in HANDED_RINGS.items():
            handed = [5, 2, 7]
            call(handed)
            handed[2] = 1001
            with self.subTest(call=name):
                self.assert_refused(NoRing, call, handed)

    def test_what_is_told_is_the_askers_own(self):
        for name, call in CALLS.items():
            for ring in RINGS:
                handed = list(ring)
                first = call(handed)
                kept = copied(first)
                spoil(first)
                second = call(handed)
                with self.subTest(call=name, ring=ring):
                    self.assertEqual(handed, ring)
                    self.assertEqual(second, kept)
                    if isinstance(first, list):
                        self.assertIsNot(first, handed)
                        self.assertIsNot(first, second)

    def test_one_answer_changed_leaves_the_others_as_they_are(self):
        for spoiler in CALLS.values():
            for ring in RINGS:
                kept = {name: copied(call(list(ring))) for name, call in CALLS.items()}
                spoil(spoiler(list(ring)))
                for name, call in CALLS.items():
                    with self.subTest(call=name, ring=ring):
                        self.assertEqual(call(list(ring)), kept[name])

    def test_nothing_is_told_otherwise_behind_a_refusal(self):
        for name, call in CALLS.items():
            kept = copied(call([5, 2, 7]))
            self.assert_refused(NoRing, call, [5, 2])
            self.assert_refused(NoSize, wheels.great_wheel, 2)
            with self.subTest(call=name):
                self.assertEqual(call([5, 2, 7]), kept)


if __name__ == "__main__":
    unittest.main()
