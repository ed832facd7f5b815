"""Points [49] to [53]: rings."""

import itertools
import unittest

from owncuts import errors
from owncuts.cuts import cuts
from owncuts.grounds import Ground
from owncuts.orders import is_order
from owncuts.periods import root
from owncuts.pieces import is_long, is_short
from owncuts.rings import (
    is_ring_order_for, ring_cuts, ring_order_for, ring_pieces, ring_windows, rotated, rotations_to, sure_part, unrolled)
from owncuts.rules import reach
from support import (
    ANY_OBJECTS, NO_ORDERS, NO_PLACES, NO_WORDS, ORDER, PAIRS, PLAIN, TWO, plain_is_own, some_orders, texts_up_to)

WIDE = Ground("ab", 3)
CASES = [(TWO, texts_up_to("ab", 7)[1:]), (PAIRS, texts_up_to("abc", 5)[1:]), (WIDE, texts_up_to("ab", 8)[1:]),
         (Ground("yz", 4), texts_up_to("yz", 9)[1::7]), (Ground("ab", 7), texts_up_to("ab", 10)[1::61])]


def plain_windows(ground, ring):
    half = ground.gap() - 1
    return ["".join(ring[at % len(ring)] for at in range(place - half, place + half)) for place in range(len(ring))]


def plain_ring_cuts(ground, order, ring):
    """The cuts, told place by place in the endless row."""
    sites = {place: window for place, window in enumerate(plain_windows(ground, ring)) if plain_is_own(ground, window)}
    found = {}

    def is_cut(place):
        if place not in found:
            rank = order.index(sites[place])
            near = {other % len(ring) for other in range(place - ground.gap() + 1, place + ground.gap())} - {place}
            found[place] = not any(
                other in sites and order.index(sites[other]) < rank and is_cut(other) for other in sorted(near))
        return found[place]

    return [place for place in sites if is_cut(place)]


class Rings(unittest.TestCase):
    def test_ring_windows(self):
        for ground, words in CASES:
            for ring in words:
                self.assertEqual(ring_windows(ground, ring), plain_windows(ground, ring))
        self.assertEqual(ring_windows(Ground("ab", 60), "ab"), ["ba" * 59, "ab" * 59])
        self.assertEqual(ring_windows(Ground("ab", 60), "b"), ["b" * 118])

    def test_ring_cuts(self):
        for ground, words in CASES:
            for order in some_orders(ground):
                for ring in words:
                    self.assertEqual(ring_cuts(ground, order, ring), plain_ring_cuts(ground, order, ring), ring)

    def test_ring_pieces(self):
        for ground, words in CASES:
            for order in some_orders(ground):
                for ring in words[::2]:
                    found = plain_ring_cuts(ground, order, ring)
                    told = ring_pieces(ground, order, ring)
                    ends = found + [place + len(ring) for place in found[:1]]
                    self.assertEqual(told, [(ring + ring)[one:other] for one, other in zip(ends, ends[1:])])
                    self.assertIs(told == [], len(root(ring)[0]) < ground.gap())
                    self.assertEqual(sum(map(len, told)), len(ring) if told else 0)
                    for piece in told:
                        self.assertGreaterEqual(len(piece), ground.gap())
                        self.assertTrue(is_short(ground, piece) or is_long(ground, piece))

    def test_a_ring_that_is_its_own_root_and_short_has_one_cut(self):
        for ground, words in CASES:
            for order in some_orders(ground):
                for ring in words:
                    if root(ring)[1] == 1 and ground.gap() <= len(ring) < 2 * ground.gap():
                        self.assertEqual(len(ring_cuts(ground, order, ring)), 1)

    def test_rings_of_few_signs_have_no_cut(self):
        for ring in ("a", "b", "ab", "ba", "abab", "bbbbb", "ababababab"):
            self.assertEqual(ring_cuts(WIDE, ORDER, ring), [])
            self.assertEqual(ring_pieces(WIDE, ORDER, ring), [])

    def test_cuts_go_with_the_ring(self):
        for ground, words in CASES:
            order = some_orders(ground, 2)[1]
            for ring in words[::5]:
                found = ring_cuts(ground, order, ring)
                for number in range(len(ring)):
                    right = sorted((place - number) % len(ring) for place in found)
                    self.assertEqual(ring_cuts(ground, order, rotated(ring, number)), right)


class Turning(unittest.TestCase):
    def test_rotated(self):
        for ring in ("a", "az", "abc", "aabab", "zzzzz"):
            for number in range(12):
                right = "".join(ring[(at + number) % len(ring)] for at in range(len(ring)))
                self.assertEqual(rotated(ring, number), right)
        self.assertEqual(rotated("abc", 10 ** 29), rotated("abc", 10 ** 29 % 3))

    def test_rotations_to(self):
        words = texts_up_to("az", 4)[1:] + ["abcab", "ababab", "bababa"]
        for one, other in itertools.product(words, repeat=2):
            right = [number for number in range(len(one)) if one[number:] + one[:number] == other]
            self.assertEqual(rotations_to(one, other), right)
        self.assertEqual(rotations_to("aaa", "aaa"), [0, 1, 2])
        self.assertEqual(rotations_to("aa", "aaaa"), [])

    def test_unrolled(self):
        for ring in ("a", "abc", "zzy"):
            for times in (1, 2, 9):
                self.assertEqual(unrolled(ring, times), "".join([ring] * times))
        for times in (0, -1, True, None, "1"):
            with self.assertRaises(errors.InvalidNumber) as told:
                unrolled("ab", times)
            self.assertIs(told.exception.value, times)

    def test_rings_are_words(self):
        for value in NO_WORDS:
            for call in (lambda: rotated(value, 1), lambda: rotations_to(value, "a"), lambda: rotations_to("a", value),
                         lambda: unrolled(value, 1)):
                with self.assertRaises(errors.InvalidRing) as told:
                    call()
                self.assertIs(told.exception.value, value)

    def test_sure_part(self):
        for ground, words in CASES[:3]:
            for order in some_orders(ground, 2):
                far = reach(ground, order)
                for ring in words[::9]:
                    for times in (1, 2, 3, 5, 12):
                        long = len(ring) * times
                        right = [place for place in range(long + 1) if place >= far and long - place >= far]
                        told = sure_part(ground, order, ring, times)
                        self.assertEqual(told, (right[0], right[-1]) if right else None)
                        if told and long <= 60:
                            inside = [place for place in cuts(ground, order, unrolled(ring, times))
                                      if told[0] <= place <= told[1]]
                            found = ring_cuts(ground, order, ring)
                            self.assertEqual(inside, [place for place in right if place % len(ring) in found])

    def test_sure_part_of_very_many_times(self):
        self.assertEqual(sure_part(PAIRS, PLAIN, "abc", 10 ** 29), (3, 3 * 10 ** 29 - 3))
        self.assertEqual(sure_part(PAIRS, PLAIN, "abc", 2), (3, 3))
        self.assertIsNone(sure_part(PAIRS, PLAIN, "abc", 1))


class OrdersFor(unittest.TestCase):
    def test_of_all_orders(self):
        every = [list(order) for order in itertools.permutations(PLAIN)]
        for ring in ("a", "ab", "abc", "aab", "abab", "abcb", "abac", "aabbc", "abcabc", "abacbc"):
            found = {tuple(ring_cuts(PAIRS, order, ring)) for order in every}
            for many in range(len(ring) + 1):
                for places in itertools.combinations(range(len(ring)), many):
                    order = ring_order_for(PAIRS, ring, list(places))
                    self.assertIs(order is None, places not in found, (ring, places))
                    if order is not None:
                        self.assertIs(is_ring_order_for(PAIRS, ring, list(places), order), True)
                        self.assertEqual(plain_ring_cuts(PAIRS, order, ring), list(places))

    def test_of_wider_grounds(self):
        for ground, words in CASES[2:]:
            for order in some_orders(ground):
                for ring in words[::7]:
                    places = plain_ring_cuts(ground, order, ring)
                    self.assertIs(is_ring_order_for(ground, ring, places, order), True)
                    found = ring_order_for(ground, ring, places)
                    self.assertTrue(is_order(ground, found))
                    self.assertEqual(plain_ring_cuts(ground, found, ring), places)
                    self.assertIs(is_ring_order_for(ground, ring, places, found), True)
                    if places:
                        self.assertIsNone(ring_order_for(ground, ring, places[1:]))

    def test_is_ring_order_for(self):
        for order in itertools.permutations(PLAIN):
            for ring, places in (("abcb", [0, 2]), ("abc", [1]), ("aab", [0]), ("abab", [1, 3]), ("a", [])):
                right = plain_ring_cuts(PAIRS, list(order), ring) == places
                self.assertIs(is_ring_order_for(PAIRS, ring, places, list(order)), right)
        for value in ANY_OBJECTS + NO_ORDERS:
            self.assertIs(is_ring_order_for(WIDE, "aab", [2], value), False)

    def test_places_are_positions_in_the_ring(self):
        for places in NO_PLACES + [[-1], [3], [0, 3], [10 ** 29]]:
            for call in (lambda: ring_order_for(WIDE, "aab", places), lambda: is_ring_order_for(WIDE, "aab", places, ORDER)):
                with self.assertRaises(errors.InvalidCuts) as told:
                    call()
                self.assertIs(told.exception.value, places)


if __name__ == "__main__":
    unittest.main()
