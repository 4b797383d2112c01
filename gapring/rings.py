"""Rings, and the rings that come of them: by turns, by turning round, by mixing."""

from gapring.errors import NoBits, NoRing, Unlike

LEAST_SIZE = 3
GREATEST_SIZE = 16
GREATEST_NUMBER = 1000


def gaps(ring):
    check_ring(ring)
    return gaps_over(ring, 1)


def after(ring, turns):
    check_ring(ring)
    now = list(ring)
    left = turns
    # Turn by turn alone would not end in time for great numbers of turns; but
    # every ring comes to a flat one, and from there on the turns can be leapt.
    while left > 0 and not flat(now):
        now = gaps_over(now, 1)
        left = left - 1
    return flat_after(now, left)


def turned(ring, by):
    check_ring(ring)
    start = by % len(ring)
    return ring[start:] + ring[:start]


def contrary(ring):
    check_ring(ring)
    return list(reversed(ring))


def mixed(one, other):
    check_ring(one)
    check_ring(other)
    if len(one) != len(other):
        raise Unlike("the two rings are of unlike sizes")
    check_bits(one)
    check_bits(other)
    return [abs(a - b) for a, b in zip(one, other)]


def check_ring(ring):
    if len(ring) < LEAST_SIZE or len(ring) > GREATEST_SIZE:
        raise NoRing(f"a ring has {LEAST_SIZE} to {GREATEST_SIZE} numbers")
    if min(ring) < 0 or max(ring) > GREATEST_NUMBER:
        raise NoRing(f"the numbers of a ring are from 0 to {GREATEST_NUMBER}")


def check_bits(ring):
    if max(ring) > 1:
        raise NoBits("a ring to be mixed has no numbers but nought and one")


def gaps_over(ring, step):
    size = len(ring)
    return [abs(ring[k] - ring[(k + step) % size]) for k in range(size)]


def flat(ring):
    greatest = max(ring)
    return all([number == 0 or number == greatest for number in ring])


def flat_after(ring, turns):
    # In a flat ring the gaps act like mixing, so 1, 2, 4, 8 .. turns are one row
    # of gaps over so many places, and the turns are those of their binary figures.
    now = ring
    left = turns
    step = 1
    while left > 0:
        if left % 2 == 1:
            now = gaps_over(now, step)
        left = left // 2
        step = step * 2 % len(now)
    return now
