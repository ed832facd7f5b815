"""Points [29] to [34]: cuts."""

import itertools
import unittest

from owncuts import errors
from owncuts.cuts import (
    are_cuts, asked_for, barred_by, cuts, cuts_by_rounds, inner_cuts, is_order_for, order_for, own_places, settled,
    window_at)
from owncuts.grounds import Ground
from owncuts.orders import depths, is_order
from owncuts.rounds import fewest_rounds, order_of, rounds_of
from support import (
    ANY_OBJECTS, NO_ORDERS, ORDER, PAIRS, PLAIN, TWO, plain_cuts, plain_sites, plain_window, some_orders, texts_up_to)

WIDE = Ground("ab", 3)
CASES = [(TWO, texts_up_to("ab", 7)), (PAIRS, texts_up_to("abc", 5)), (WIDE, texts_up_to("ab", 7)),
         (Ground("yz", 3), texts_up_to("yz", 5)), (Ground("ab", 4), texts_up_to("ab", 8)[::5])]


class Windows(unittest.TestCase):
    def test_window_at(self):
        for ground, texts in CASES:
            for text in texts[::7]:
                for place in range(-9, len(text) + 10):
                    self.assertEqual(window_at(ground, text, place), plain_window(ground, text, place))

    def test_far_outside_all_is_the_first_sign(self):
        for place in (-(10 ** 29), 10 ** 29, -7, 99):
            self.assertEqual(window_at(Ground("xyz", 3), "zyzyz", place), "xxxx")
        self.assertEqual(window_at(Ground("xyz", 3), "zyzyz", -1), "xxxz")
        self.assertEqual(window_at(Ground("xyz", 3), "zyzyz", 6), "zxxx")

    def test_own_places(self):
        for ground, texts in CASES:
            for text in texts:
                self.assertEqual(own_places(ground, text), list(plain_sites(ground, text)), text)

    def test_none_lies_farther_than_the_gap_less_two_outside(self):
        for gap in range(2, 9):
            ground = Ground("ab", gap)
            for text in ("b", "ba", "ab", "bbab", "babbbab"):
                found = own_places(ground, text)
                self.assertGreaterEqual(found[0], 2 - gap)
                self.assertLessEqual(found[-1], len(text) + gap - 2)
        self.assertEqual(own_places(Ground("ab", 4), "b"), [-2, -1, 0, 1, 2, 3])
        self.assertEqual(own_places(Ground("ab", 4), "aaaa"), [])
        self.assertEqual(own_places(Ground("ab", 4), ""), [])


class Cuts(unittest.TestCase):
    def test_cuts(self):
        for ground, texts in CASES:
            for order in some_orders(ground):
                for text in texts:
                    right = plain_cuts(ground, order, text)
                    self.assertEqual(cuts(ground, order, text), right)
                    self.assertEqual(inner_cuts(ground, order, text), [at for at in right if 0 < at < len(text)])
                    self.assertIs(are_cuts(ground, order, text, right), True)

    def test_some_cuts_lie_outside(self):
        self.assertEqual(cuts(WIDE, ORDER, "b"), [-1, 2])
        self.assertEqual(inner_cuts(WIDE, ORDER, "b"), [])
        self.assertEqual(cuts(TWO, ["ab", "ba"], "b"), [0])
        self.assertEqual(inner_cuts(TWO, ["ba", "ab"], "b"), [])

    def test_bent_lists_are_not_the_cuts(self):
        for ground, texts in CASES:
            order = some_orders(ground, 2)[1]
            for text in texts[5::11]:
                right = cuts(ground, order, text)
                for value in ([at + 1 for at in right], [at - 1 for at in right], right[::-1], right + [len(text) + 9],
                              right + right, tuple(right), right[1:], right[:-1], [None] + right, {at: at for at in right}):
                    self.assertIs(are_cuts(ground, order, text, value), value == right, value)
        for value in ANY_OBJECTS:
            self.assertIs(are_cuts(WIDE, ORDER, "aabbbabaa", value), False)

    def test_true_and_false_are_no_cuts(self):
        self.assertEqual(cuts(TWO, ["ab", "ba"], "ab"), [1])
        self.assertIs(are_cuts(TWO, ["ab", "ba"], "ab", [1]), True)
        self.assertIs(are_cuts(TWO, ["ab", "ba"], "ab", [True]), False)
        self.assertEqual(cuts(TWO, ["ab", "ba"], "b"), [0])
        self.assertIs(are_cuts(TWO, ["ab", "ba"], "b", [False]), False)
        self.assertIs(are_cuts(TWO, ["ab", "ba"], "", []), True)

    def test_cuts_by_rounds(self):
        for ground, texts in CASES[:4]:
            for order in some_orders(ground):
                rows = rounds_of(ground, order)
                for text in texts[::3]:
                    sites = plain_sites(ground, text)
                    right = []
                    for row in rows:
                        new = [place for place in sites if sites[place] in row
                               and all(abs(place - other) >= ground.gap() for other in right)]
                        right.extend(new)
                    self.assertEqual(cuts_by_rounds(ground, rows, text), sorted(right))
                    self.assertEqual(cuts_by_rounds(ground, rows, text), cuts(ground, order_of(ground, rows), text))
            self.assertEqual(cuts_by_rounds(ground, fewest_rounds(ground), ""), [])


class Why(unittest.TestCase):
    def each(self):
        for ground, texts in CASES:
            for order in some_orders(ground, 2):
                for text in texts[3::5]:
                    yield ground, order, text, plain_sites(ground, text), plain_cuts(ground, order, text)

    def test_barred_by(self):
        for ground, order, text, sites, right in self.each():
            for place in sites:
                if place not in right:
                    near = [other for other in right if abs(place - other) < ground.gap()]
                    least = min(order.index(sites[other]) for other in near)
                    self.assertEqual(barred_by(ground, order, text, place),
                                     [other for other in near if order.index(sites[other]) == least][0])

    def test_the_first_one_of_two_of_one_rank(self):
        self.assertEqual(cuts(TWO, ["ab", "ba"], "abab"), [1, 3])
        self.assertEqual(barred_by(TWO, ["ab", "ba"], "abab", 2), 1)
        self.assertEqual(barred_by(TWO, ["ab", "ba"], "abab", 4), 3)

    def test_a_cut_is_not_barred(self):
        for ground, order, text, sites, right in self.each():
            for place in right:
                with self.assertRaises(errors.Refused) as told:
                    barred_by(ground, order, text, place)
                self.assertIs(told.exception.value, place)

    def test_places_of_other_windows(self):
        for ground, order, text, sites, right in self.each():
            for place in range(-6, len(text) + 7):
                if place not in sites:
                    for call in (barred_by, asked_for):
                        with self.assertRaises(errors.InvalidPlace) as told:
                            call(ground, order, text, place)
                        self.assertIs(told.exception.value, place)
        for place in (True, False, None, "1", [1]):
            with self.assertRaises(errors.InvalidPlace):
                asked_for(TWO, ["ab", "ba"], "bab", place)

    def test_settled(self):
        for ground, order, text, sites, right in self.each():
            def steps(place):
                rank = order.index(sites[place])
                return 1 + max([steps(other) for other in sites if abs(other - place) < ground.gap()
                                and order.index(sites[other]) < rank], default=0)
            told = settled(ground, order, text)
            self.assertEqual(list(told.items()), [(place, steps(place)) for place in sorted(sites)])
            deep = depths(ground, order)
            for place in told:
                self.assertLessEqual(told[place], deep[sites[place]])

    def test_asked_for(self):
        for ground, order, text, sites, right in self.each():
            def hangs_on(place):
                rank = order.index(sites[place])
                found = {place}
                for other in sites:
                    if abs(other - place) < ground.gap() and order.index(sites[other]) < rank:
                        found |= hangs_on(other)
                return found
            for place in sites:
                self.assertEqual(asked_for(ground, order, text, place), sorted(hangs_on(place)))


class OrdersFor(unittest.TestCase):
    def test_of_all_orders(self):
        every = [list(order) for order in itertools.permutations(PLAIN)]
        for text in ("", "a", "b", "abc", "aabca", "bcab", "cabcab", "acbba", "abcacb"):
            found = {tuple(cuts(PAIRS, order, text)) for order in every}
            sites = own_places(PAIRS, text)
            for many in range(len(sites) + 1):
                for places in itertools.combinations(sites, many):
                    order = order_for(PAIRS, text, list(places))
                    self.assertIs(order is None, places not in found, (text, places))
                    if order is not None:
                        self.assertIs(is_order_for(PAIRS, text, list(places), order), True)
                        self.assertEqual(plain_cuts(PAIRS, order, text), list(places))

    def test_of_wider_grounds(self):
        for ground, texts in CASES[2:]:
            for order in some_orders(ground):
                for text in texts[::9]:
                    places = plain_cuts(ground, order, text)
                    self.assertIs(is_order_for(ground, text, places, order), True)
                    found = order_for(ground, text, places)
                    self.assertTrue(is_order(ground, found))
                    self.assertEqual(plain_cuts(ground, found, text), places)
                    self.assertIs(is_order_for(ground, text, places, found), True)
                    self.assertIsNone(order_for(ground, text, places + [len(text) + 9]))
                    if places:
                        self.assertIsNone(order_for(ground, text, places[:-1]))

    def test_places_that_no_order_cuts(self):
        for places in ([-1], [-5, 2], [2], [3], [2, 3], [3, 4], [0, 2], [1, 3], [99], [2, 4, 10 ** 29]):
            if places != [3]:
                self.assertIsNone(order_for(PAIRS, "aabca", places), places)
        self.assertIsNotNone(order_for(PAIRS, "aabca", [3]))
        # Each of the windows would have to be taken ahead of the other one.
        self.assertIsNone(order_for(TWO, "ababbab", [1, 3, 5]))
        self.assertIsNone(order_for(TWO, "bab", [0, 2, 3]))

    def test_is_order_for(self):
        for order in itertools.permutations(PLAIN):
            for text, places in (("aabca", [2, 4]), ("aabca", [3]), ("bcab", [0, 2]), ("bcab", [1, 3]), ("", []), ("", [1])):
                right = plain_cuts(PAIRS, list(order), text) == places
                self.assertIs(is_order_for(PAIRS, text, places, list(order)), right)
        for value in ANY_OBJECTS + NO_ORDERS:
            self.assertIs(is_order_for(WIDE, "aabbbabaa", [1, 4, 7], value), False)


if __name__ == "__main__":
    unittest.main()
