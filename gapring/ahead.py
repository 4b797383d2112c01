"""What was ahead of a ring: a row of numbers of which it is the gap ring."""

from gapring.rings import check_ring


def parting(ring):
    check_ring(ring)
    total = sum(ring)
    if total % 2 == 1:
        return None
    last_places = places_by_sum(ring)
    if total // 2 not in last_places:
        return None
    return parted(ring, last_places, total // 2)


def ahead(ring):
    rising = parting(ring)
    if rising is None:
        return None
    # The steps up and the steps down come to the same sum, so the row closes round.
    row = []
    height = 0
    for number, up in zip(ring, rising):
        row.append(height)
        if up:
            height = height + number
        else:
            height = height - number
    lowest = min(row)
    return [number - lowest for number in row]


def places_by_sum(ring):
    # Place nought is always taken: a parting is as good with its two parts swapped.
    # Kept under each sum is the last of the places that make it, as early as can be.
    last_places = {ring[0]: 0}
    for place in range(1, len(ring)):
        for reached in list(last_places):
            if reached + ring[place] not in last_places:
                last_places[reached + ring[place]] = place
    return last_places


def parted(ring, last_places, half):
    # The sum that is left without its last place is made of places ahead of that one,
    # so no place is taken twice on the way back to place nought.
    taken = [False] * len(ring)
    taken[0] = True
    left = half
    while last_places[left] > 0:
        place = last_places[left]
        taken[place] = True
        left = left - ring[place]
    return taken
