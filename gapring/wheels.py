"""Where rings go: to flat ones, to noughts, and round on wheels."""

from gapring.errors import NoSize
from gapring.rings import GREATEST_SIZE, LEAST_SIZE, after, check_ring, flat, gaps_over


def is_flat(ring):
    check_ring(ring)
    return flat(ring)


def tail_and_wheel(ring):
    check_ring(ring)
    first_seen = {}
    now = tuple(ring)
    turns = 0
    while now not in first_seen:
        first_seen[now] = turns
        now = tuple(gaps_over(now, 1))
        turns = turns + 1
    tail = first_seen[now]
    return (tail, turns - tail)


def to_noughts(ring):
    # Noughts alone come again at once, and no ring on the way to them comes again:
    # so if they are come to at all, it is just at the tail's end.
    tail = tail_and_wheel(ring)[0]
    if max(after(ring, tail)) > 0:
        return None
    return tail


def great_wheel(size):
    if size < LEAST_SIZE or size > GREATEST_SIZE:
        raise NoSize(f"a size is from {LEAST_SIZE} to {GREATEST_SIZE}")
    return tail_and_wheel([1] + [0] * (size - 1))
