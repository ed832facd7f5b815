"""Points [15] to [19]: grounds and windows."""

import itertools
import unittest

from owncuts import errors
from owncuts.grounds import (
    Ground, are_near, distances, is_near_text, is_own, lone_rings, many_own, near_ones, near_text, next_ones,
    own_windows, windows)
from support import ANY_OBJECTS, plain_periods

GROUNDS = [Ground("ab", 2), Ground("abc", 2), Ground("bdxz", 2), Ground("ab", 3), Ground("az", 3), Ground("abc", 3),
           Ground("ab", 4), Ground("ab", 5)]
# Few enough windows to go through all pairs of them.
SMALL = [ground for ground in GROUNDS if len(ground.signs()) ** ground.width() <= 64]


def plain_windows(ground):
    return ["".join(word) for word in itertools.product(ground.signs(), repeat=2 * ground.gap() - 2)]


def plain_is_own(ground, window):
    return not [period for period in plain_periods(window) if period < ground.gap()]


def plain_distances(ground, one, other):
    """Those at which the signs on which two windows lie together are alike."""
    return [late for late in range(1, ground.gap())
            if all(one[at] == other[at - late] for at in range(late, len(one)))]


def plain_near(ground, one, other):
    return plain_distances(ground, one, other) != [] or plain_distances(ground, other, one) != []


class Grounds(unittest.TestCase):
    def test_what_it_tells(self):
        for signs in ("ab", "az", "abc", "bdxz", "abcdefghijklmnopqrstuvwxyz"):
            for gap in (2, 3, 7, 60):
                ground = Ground(signs, gap)
                self.assertEqual((ground.signs(), ground.gap(), ground.width()), (signs, gap, 2 * gap - 2))

    def test_signs(self):
        for signs in ("", "a", "aa", "ba", "aab", "abb", "acb", "abA", "AB", "a b", "a{", "`a", "a1", ("a", "b"), None):
            with self.assertRaises(errors.InvalidSigns) as told:
                Ground(signs, 3)
            self.assertIs(told.exception.value, signs)

    def test_gap(self):
        for gap in (1, 0, -2, True, False, None, "3", (3,), [3]):
            with self.assertRaises(errors.InvalidGap) as told:
                Ground("ab", gap)
            self.assertIs(told.exception.value, gap)
        with self.assertRaises(errors.InvalidSigns):
            Ground("ba", 1)

    def test_equality(self):
        for one, other in itertools.product(GROUNDS, repeat=2):
            alike = one.signs() == other.signs() and one.gap() == other.gap()
            self.assertIs(one == other, alike)
            self.assertIs(one != other, not alike)
        self.assertTrue(Ground("ab", 3) == Ground("ab", 3))
        self.assertFalse(Ground("ab", 3) == Ground("ab", 4))
        self.assertFalse(Ground("ab", 3) == Ground("ac", 3))
        for value in ANY_OBJECTS:
            if not isinstance(value, Ground):
                self.assertIs(Ground("ab", 3) == value, False)
                self.assertIs(value == Ground("ab", 3), False)


class Windows(unittest.TestCase):
    def test_windows(self):
        for ground in GROUNDS:
            self.assertEqual(windows(ground), plain_windows(ground))
            self.assertEqual(windows(ground), sorted(windows(ground)))

    def test_own_windows(self):
        for ground in GROUNDS:
            right = [window for window in plain_windows(ground) if plain_is_own(ground, window)]
            self.assertEqual(own_windows(ground), right)
            self.assertEqual(many_own(ground), len(right))

    def test_is_own(self):
        for ground in GROUNDS:
            for window in plain_windows(ground):
                self.assertIs(is_own(ground, window), plain_is_own(ground, window), window)

    def test_a_period_of_the_gap_or_more_does_not_count(self):
        self.assertTrue(is_own(Ground("ab", 3), "abba"))
        self.assertTrue(is_own(Ground("abc", 3), "abca"))
        self.assertFalse(is_own(Ground("abc", 4), "abcabc"))
        self.assertTrue(is_own(Ground("abc", 4), "abcaab"))

    def test_windows_of_another_ground(self):
        for window in ("abc", "abcab", "abcd", "abc", "ABBA", "", None, ["a", "b", "b", "a"]):
            with self.assertRaises(errors.InvalidWindow) as told:
                is_own(Ground("abc", 3), window)
            self.assertIs(told.exception.value, window)


class Near(unittest.TestCase):
    def test_distances_and_nearness(self):
        for ground in SMALL:
            for one, other in itertools.product(plain_windows(ground), repeat=2):
                self.assertEqual(distances(ground, one, other), plain_distances(ground, one, other))
                self.assertIs(are_near(ground, one, other), plain_near(ground, one, other))

    def test_distances_end_below_the_gap(self):
        self.assertEqual(distances(Ground("ab", 3), "aaaa", "aaaa"), [1, 2])
        self.assertEqual(distances(Ground("ab", 2), "ab", "ba"), [1])
        self.assertEqual(distances(Ground("ab", 4), "ababab", "ababab"), [2])

    def test_near_ones(self):
        for ground in SMALL:
            for window in plain_windows(ground):
                right = [other for other in plain_windows(ground)
                         if plain_is_own(ground, other) and plain_near(ground, window, other)]
                self.assertEqual(near_ones(ground, window), right)

    def test_no_own_window_is_near_itself(self):
        for ground in GROUNDS:
            for window in plain_windows(ground):
                self.assertIs(are_near(ground, window, window), not plain_is_own(ground, window))


class NearTexts(unittest.TestCase):
    def is_right(self, ground, one, other, told):
        text, at, late = told
        return (set(text) <= set(ground.signs()) and at >= 0 and late >= 0 and text[at:].startswith(one)
                and text[late:].startswith(other) and 0 < max(at - late, late - at) < ground.gap())

    def test_near_text(self):
        for ground in SMALL:
            for one, other in itertools.product(plain_windows(ground), repeat=2):
                told = near_text(ground, one, other)
                if plain_near(ground, one, other):
                    self.assertEqual([type(part) for part in told], [str, int, int])
                    self.assertTrue(self.is_right(ground, one, other, told), told)
                    self.assertIs(is_near_text(ground, one, other, told), True)
                else:
                    self.assertIsNone(told)

    def test_judged_as_told(self):
        for ground in (Ground("ab", 2), Ground("abc", 2), Ground("ab", 3)):
            pairs = list(itertools.product(plain_windows(ground)[:9], repeat=2))
            texts = ["".join(word) for many in range(7) for word in itertools.product("ab", repeat=many)]
            for one, other in pairs[::5]:
                for text, at, late in itertools.product(texts, range(4), range(4)):
                    right = self.is_right(ground, one, other, (text, at, late))
                    self.assertIs(is_near_text(ground, one, other, (text, at, late)), right)

    def test_either_may_be_the_first(self):
        ground = Ground("ab", 3)
        self.assertTrue(is_near_text(ground, "abba", "aabb", ("aabba", 1, 0)))
        self.assertFalse(is_near_text(ground, "abba", "aabb", ("aabba", 0, 1)))
        self.assertTrue(is_near_text(ground, "aabb", "abba", ("bbaabbabb", 2, 3)))
        self.assertTrue(is_near_text(ground, "aaaa", "aaaa", ("aaaaaaaaa", 5, 3)))
        self.assertFalse(is_near_text(ground, "aaaa", "aaaa", ("aaaaaaaaa", 5, 2)))
        self.assertFalse(is_near_text(ground, "aaaa", "aaaa", ("aaaaaaaaa", 3, 3)))

    def test_other_things_are_none(self):
        ground = Ground("ab", 3)
        wrong = [
            ["aabba", 0, 1], ("aabba", 0), ("aabba", 0, 1, 2), ("aabba", False, 1), ("aabba", 0, True), ("aabba", "0", 1),
            ("aabba", 0, None), ("aabba", -5, -4), ("aabbab", -6, -5), ("aabbab", 0, -5), ("caabba", 1, 2),
            ("aabbac", 0, 1), ("AABBA", 0, 1),
            (None, 0, 1), (["a", "a", "b", "b", "a"], 0, 1), (("a", "a", "b", "b", "a"), 0, 1), "aabba", (), [],
            {"aabba": (0, 1)}, ("aabba", 1, 0), ("aabb", 0, 1), ("aabba", 10 ** 29, 10 ** 29 + 1), ("aabba", [0], [1]),
            (("aabba", 0, 1),), None, True,
        ]
        self.assertTrue(is_near_text(ground, "aabb", "abba", ("aabba", 0, 1)))
        for value in wrong:
            self.assertIs(is_near_text(ground, "aabb", "abba", value), False, value)


class NextOnes(unittest.TestCase):
    def test_next_ones(self):
        for ground in GROUNDS:
            for window in plain_windows(ground)[::3]:
                right = [other for other in plain_windows(ground) if other[:-1] == window[1:]]
                self.assertEqual(next_ones(ground, window), right)

    def test_lone_rings(self):
        for ground in GROUNDS:
            rings = lone_rings(ground)
            repeating = [window for window in plain_windows(ground) if not plain_is_own(ground, window)]
            self.assertEqual(rings, sorted(rings))
            self.assertEqual(sorted(window for ring in rings for window in ring), repeating)
            for ring in rings:
                self.assertIsInstance(ring, list)
                self.assertEqual(ring[0], min(ring))
                for window, behind in zip(ring, ring[1:] + ring[:1]):
                    self.assertEqual(window[1:], behind[:-1])

    def test_lone_rings_of_a_wide_ground(self):
        self.assertEqual(lone_rings(Ground("ab", 4)), [
            ["aaaaaa"], ["aabaab", "abaaba", "baabaa"], ["ababab", "bababa"], ["abbabb", "bbabba", "babbab"],
            ["bbbbbb"],
        ])


if __name__ == "__main__":
    unittest.main()
