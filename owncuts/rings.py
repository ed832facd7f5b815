"""Rings: words that are read round for ever on both sides."""

from owncuts.checks import are_places, check_number, is_word
from owncuts.errors import InvalidCuts, InvalidRing
from owncuts.grounds import check_ground, is_word_of
from owncuts.orders import check_ground_and_order, is_order, ranks_in
from owncuts.rules import reach
from owncuts.sites import chosen, order_choosing, ring_sites, windows_round


def _check_ring_of(ground, value):
    if not is_word_of(ground, value):
        raise InvalidRing(value)


def _check_ring(value):
    if not is_word(value):
        raise InvalidRing(value)


def ring_windows(ground, ring):
    """Return the list of the windows of the places of a ring."""
    check_ground(ground)
    _check_ring_of(ground, ring)
    return windows_round(ground, ring)


def ring_cuts(ground, order, ring):
    """Return the ascending list of the places of a ring that are cuts."""
    check_ground_and_order(ground, order)
    _check_ring_of(ground, ring)
    return chosen(ring_sites(ground, ring), ranks_in(order))


def ring_pieces(ground, order, ring):
    """Return the list of the pieces of a ring from each cut to the next one, from the first cut on."""
    found = ring_cuts(ground, order, ring)
    if found == []:
        return []
    ends = found[1:] + [found[0] + len(ring)]
    row = ring + ring
    return [row[first:behind] for first, behind in zip(found, ends)]


def rotated(ring, number):
    """Return a ring begun so many signs later."""
    _check_ring(ring)
    check_number(number, 0)
    first = number % len(ring)
    return ring[first:] + ring[:first]


def rotations_to(one, other):
    """Return the ascending list of the counts by which the first ring, so rotated, becomes the other one."""
    _check_ring(one)
    _check_ring(other)
    return [number for number in range(len(one)) if rotated(one, number) == other]


def unrolled(ring, times):
    """Return the text of a ring so many times, one behind the other."""
    _check_ring(ring)
    check_number(times, 1)
    return ring * times


def sure_part(ground, order, ring, times):
    """Return the first and last place of an unrolled ring that lie the reach from its ends, None if there are none."""
    check_ground_and_order(ground, order)
    _check_ring_of(ground, ring)
    check_number(times, 1)
    first = reach(ground, order)
    last = len(ring) * times - first
    if last < first:
        return None
    return (first, last)


def _check_ring_places(ground, ring, places):
    check_ground(ground)
    _check_ring_of(ground, ring)
    if not are_places(places) or not all([0 <= place < len(ring) for place in places]):
        raise InvalidCuts(places)


def ring_order_for(ground, ring, places):
    """Return any order by which the cuts of a ring are these places, None if there is none."""
    _check_ring_places(ground, ring, places)
    return order_choosing(ground, ring_sites(ground, ring), places)


def is_ring_order_for(ground, ring, places, value):
    """Return whether any object is what ring_order_for may return as an order."""
    _check_ring_places(ground, ring, places)
    return is_order(ground, value) and chosen(ring_sites(ground, ring), ranks_in(value)) == places
