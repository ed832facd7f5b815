"""Points [20] to [23]: orders."""

import itertools
import unittest

from owncuts import errors
from owncuts.grounds import Ground, are_near, own_windows
from owncuts.orders import (
    depths, falling_path, greatest_depth, is_falling_path, is_order, mirrored_order, plain_order, rank_of)
from support import ANY_OBJECTS, NO_ORDERS, ORDER, PAIRS, PLAIN, TWO, plain_cuts, some_orders, texts_up_to

WIDE = Ground("ab", 3)
GROUNDS = [TWO, PAIRS, Ground("bdxz", 2), WIDE, Ground("az", 3), Ground("ab", 4)]


def plain_depth(ground, order, window):
    lesser = [other for other in order[:order.index(window)] if are_near(ground, window, other)]
    return 1 + max([plain_depth(ground, order, other) for other in lesser], default=0)


def is_path(ground, order, path):
    ranks = [order.index(window) for window in path]
    return path != [] and all(ranks[at] > ranks[at + 1] and are_near(ground, path[at], path[at + 1])
                              for at in range(len(path) - 1))


class Orders(unittest.TestCase):
    def test_every_sequence_of_all_own_windows_is_one(self):
        for order in itertools.permutations(own_windows(PAIRS)):
            self.assertIs(is_order(PAIRS, list(order)), True)
        for ground in GROUNDS:
            for order in some_orders(ground):
                self.assertIs(is_order(ground, order), True)

    def test_nothing_else_is_one(self):
        for value in ANY_OBJECTS + NO_ORDERS:
            self.assertIs(is_order(WIDE, value), False)
        self.assertIs(is_order(WIDE, ORDER), True)
        for ground in GROUNDS:
            order = plain_order(ground)
            for at in range(len(order)):
                self.assertIs(is_order(ground, order[:at] + order[at + 1:]), False)
                self.assertIs(is_order(ground, order + [order[at]]), False)
                self.assertIs(is_order(ground, order[:at] + [order[at - 1]] + order[at + 1:]), False)
                self.assertIs(is_order(ground, order[:at] + [ground.signs()[0] * ground.width()] + order[at + 1:]), False)

    def test_a_wide_ground_is_told_at_once(self):
        self.assertIs(is_order(Ground("abcdefghijklmnopqrstuvwxyz", 60), ["ab"]), False)

    def test_plain_order_and_ranks(self):
        for ground in GROUNDS:
            self.assertEqual(plain_order(ground), own_windows(ground))
            for order in some_orders(ground):
                self.assertEqual([rank_of(ground, order, window) for window in order], list(range(len(order))))

    def test_a_window_that_repeats_has_no_rank(self):
        for window in ("aaaa", "abab", "baba", "bbbb"):
            with self.assertRaises(errors.InvalidWindow) as told:
                rank_of(WIDE, ORDER, window)
            self.assertIs(told.exception.value, window)


class Depths(unittest.TestCase):
    def test_depths(self):
        for ground in GROUNDS[:5]:
            for order in some_orders(ground, 5):
                right = {window: plain_depth(ground, order, window) for window in sorted(order)}
                self.assertEqual(list(depths(ground, order).items()), list(right.items()))
                self.assertEqual(greatest_depth(ground, order), max(right.values()))

    def test_a_window_with_no_near_one_ahead_has_depth_one(self):
        self.assertEqual(depths(TWO, ["ba", "ab"]), {"ab": 2, "ba": 1})
        self.assertEqual(depths(PAIRS, ["ab", "cb", "ac", "bc", "ba", "ca"])["cb"], 1)


class Paths(unittest.TestCase):
    def test_falling_path(self):
        for ground in GROUNDS:
            for order in some_orders(ground, 5):
                path = falling_path(ground, order)
                self.assertEqual(len(path), greatest_depth(ground, order))
                self.assertTrue(is_path(ground, order, path))
                self.assertIs(is_falling_path(ground, order, path), True)

    def test_the_longest_alone_are_right(self):
        for order in ([PLAIN[at] for at in (3, 1, 5, 0, 2, 4)], PLAIN):
            every = [list(row) for many in range(5) for row in itertools.product(PLAIN, repeat=many)]
            longest = max(len(row) for row in every if is_path(PAIRS, order, row))
            self.assertEqual(longest, greatest_depth(PAIRS, order))
            for row in every:
                right = is_path(PAIRS, order, row) and len(row) == longest
                self.assertIs(is_falling_path(PAIRS, order, row), right, row)

    def test_other_things_are_none(self):
        for value in ANY_OBJECTS + [("ca", "bc", "ab"), ["ca", "bc", None], ["ca", "bc", "aa"], ["ca", "bc", ["ab"]], "cabcab",
                                    ["ab", "bc", "ca"], ["bc", "ab"], ["ca", "ba", "ab"], [4, 3, 0]]:
            self.assertIs(is_falling_path(PAIRS, PLAIN, value), False, value)
        self.assertIs(is_falling_path(PAIRS, PLAIN, ["ca", "bc", "ab"]), True)


class Mirrors(unittest.TestCase):
    def test_mirrored_order(self):
        for ground in GROUNDS:
            for order in some_orders(ground):
                mirrored = mirrored_order(ground, order)
                self.assertEqual(mirrored, ["".join(reversed(window)) for window in order])
                self.assertTrue(is_order(ground, mirrored))
                self.assertEqual(mirrored_order(ground, mirrored), order)

    def test_cuts_of_a_text_read_backwards(self):
        for ground, most in ((PAIRS, 5), (WIDE, 7)):
            for order in some_orders(ground, 2):
                for text in texts_up_to(ground.signs(), most)[::3]:
                    right = sorted(len(text) - place for place in plain_cuts(ground, order, text))
                    self.assertEqual(plain_cuts(ground, mirrored_order(ground, order), text[::-1]), right)


if __name__ == "__main__":
    unittest.main()
