"""Point [3]: up to the limits, each call of orders, rounds, cuts, pieces, rules, rings and views returns in time."""

import random
import unittest

from owncuts import cuts, orders, pieces, rings, rounds, rules, views
from owncuts.grounds import Ground, own_windows
from support import in_time, some_orders

LETTERS = "abcdefghijklmnopqrstuvwxyz"
# Of 4,096 windows, or nearly as many.
GREAT = [Ground("ab", 7), Ground("abcd", 4), Ground("abcdefgh", 3), Ground(LETTERS, 2)]
# Of 80 own windows at most.
MIDDLE = [Ground("abcdefghi", 2), Ground("abc", 3), Ground("ab", 4)]
WIDE = Ground("ab", 60)
WIDEST = Ground(LETTERS, 60)
HUGE = 10 ** 30 - 1


def some_text(signs, long, seed=0):
    return "".join(random.Random(seed).choices(signs, k=long))


def texts_of_120(signs):
    first, second = signs[:2]
    return [first * 120, second * 120, (first + second) * 60, (first * 9 + second) * 12, some_text(signs, 120),
            some_text(signs, 40) * 3, (first * 59 + second) * 2, ""]


class OrdersAndCuts(unittest.TestCase):
    def test_orders_of_great_grounds(self):
        for ground in GREAT:
            order = in_time(self, orders.plain_order, ground)
            self.assertTrue(in_time(self, orders.is_order, ground, order))
            self.assertTrue(in_time(self, orders.is_order, ground, order[::-1]))
            self.assertFalse(in_time(self, orders.is_order, ground, order[1:] + order[1:2]))
            self.assertEqual(in_time(self, orders.rank_of, ground, order, order[-1]), len(order) - 1)
            self.assertEqual(len(in_time(self, orders.mirrored_order, ground, order)), len(order))

    def test_cuts_of_great_grounds(self):
        for ground in GREAT:
            for order in some_orders(ground, 2):
                single = [[window] for window in order]
                for text in texts_of_120(ground.signs()):
                    found = in_time(self, cuts.cuts, ground, order, text)
                    in_time(self, cuts.inner_cuts, ground, order, text)
                    self.assertTrue(in_time(self, cuts.are_cuts, ground, order, text, found))
                    self.assertEqual(in_time(self, cuts.cuts_by_rounds, ground, single, text), found)
                    told = in_time(self, cuts.settled, ground, order, text)
                    for place in list(told)[::40]:
                        in_time(self, cuts.asked_for, ground, order, text, place)
                        if place not in found:
                            in_time(self, cuts.barred_by, ground, order, text, place)
                    self.assertTrue(in_time(self, cuts.is_order_for, ground, text, found, order))
                    other = in_time(self, cuts.order_for, ground, text, found)
                    self.assertTrue(in_time(self, cuts.is_order_for, ground, text, found, other))
                    in_time(self, cuts.order_for, ground, text, found[::2])

    def test_windows_at_gaps_up_to_60(self):
        for ground in (WIDE, WIDEST, Ground("ab", 59)):
            for text in texts_of_120(ground.signs()):
                found = in_time(self, cuts.own_places, ground, text)
                self.assertEqual(found == [], text.strip("a") == "")
                for place in (0, 60, 120, -58, 178, -HUGE, HUGE):
                    self.assertEqual(len(in_time(self, cuts.window_at, ground, text, place)), ground.width())

    def test_depths_and_rounds_of_80_own_windows(self):
        for ground in MIDDLE:
            for order in some_orders(ground):
                found = in_time(self, orders.depths, ground, order)
                self.assertEqual(in_time(self, orders.greatest_depth, ground, order), max(found.values()))
                path = in_time(self, orders.falling_path, ground, order)
                self.assertTrue(in_time(self, orders.is_falling_path, ground, order, path))
                rows = in_time(self, rounds.rounds_of, ground, order)
                self.assertTrue(in_time(self, rounds.are_rounds, ground, rows))
                in_time(self, rounds.order_of, ground, rows)
                if ground.gap() == 2:
                    sets = in_time(self, rounds.sets_of, ground, rows)
                    self.assertTrue(in_time(self, rounds.are_sets, ground, len(rows), sets))
                    in_time(self, rounds.rounds_by, ground, len(rows), sets)
            group = in_time(self, rounds.all_near, ground)
            self.assertTrue(in_time(self, rounds.is_all_near, ground, group))
            self.assertFalse(in_time(self, rounds.is_all_near, ground, own_windows(ground)))

    def test_fewest_rounds_of_30_own_windows(self):
        for ground in (Ground("abcdef", 2), Ground("abcde", 2), Ground("ab", 3)):
            rows = in_time(self, rounds.fewest_rounds, ground)
            self.assertEqual(in_time(self, rounds.least_rounds, ground), len(rows))
            self.assertTrue(in_time(self, rounds.are_fewest, ground, rows))

    def test_great_numbers_of_signs_and_rounds(self):
        self.assertEqual(in_time(self, rounds.signs_for, 100), 100891344545564193334812497256)
        for many in (10 ** 29, HUGE):
            number = in_time(self, rounds.rounds_for, many)
            self.assertTrue(rounds.signs_for(number - 1) < many <= rounds.signs_for(number))
        sets = {sign: [at, HUGE - 1 - at] for at, sign in enumerate(LETTERS)}
        self.assertTrue(in_time(self, rounds.are_sets, Ground(LETTERS, 2), HUGE, sets))
        self.assertEqual(len(in_time(self, rounds.rounds_by, Ground(LETTERS, 2), HUGE, sets)), 26)


class Pieces(unittest.TestCase):
    def test_pieces_of_texts_of_120_signs(self):
        for ground in GREAT:
            for order in some_orders(ground, 2):
                for text in texts_of_120(ground.signs()):
                    words = in_time(self, pieces.pieces, ground, order, text)
                    self.assertEqual(in_time(self, pieces.joined, words), text)
                    row = in_time(self, pieces.told_text, ground, order, text)
                    self.assertTrue(in_time(self, pieces.is_told_text, ground, order, row))
                    if text:
                        in_time(self, pieces.holding, ground, order, text, 119)

    def test_words_at_gaps_up_to_60(self):
        for ground in (WIDE, WIDEST):
            for text in texts_of_120(ground.signs()):
                in_time(self, pieces.sure_cuts, ground, text)
                in_time(self, pieces.sure_pieces, ground, text)
                if text and in_time(self, pieces.is_long, ground, text):
                    told = in_time(self, pieces.told_of, ground, text)
                    self.assertEqual(in_time(self, pieces.word_of, ground, told), text)
                    in_time(self, pieces.turn_of, ground, text)
            told = ("a", "a" * 58 + "b", 16, "a" * 50, "b")
            self.assertTrue(in_time(self, pieces.is_told, ground, told))
            self.assertEqual(len(in_time(self, pieces.word_of, ground, told)), 996)
            self.assertEqual(in_time(self, pieces.told_of, ground, pieces.word_of(ground, told)), told)

    def test_rows_of_60_told_words_with_times_of_30_digits(self):
        for ground in GREAT + MIDDLE:
            turn = "a" * (ground.gap() - 2) + "b"
            long = [("a", turn, HUGE - at, turn[:at % len(turn)], "b") for at in range(30)]
            row = [told for pair in zip(long, [("ab",), ("b",), ("aab"[:2 * ground.gap() - 1],)] * 10) for told in pair]
            self.assertEqual(len(row), 60)
            self.assertGreater(in_time(self, pieces.size_of, ground, row), 900)
            for order in some_orders(ground, 2):
                again = in_time(self, pieces.told_again, ground, order, row)
                self.assertTrue(in_time(self, pieces.is_told_text, ground, order, again))
                in_time(self, pieces.is_told_text, ground, order, row)
        row = [("a", "a" * 58 + "b", HUGE, "a" * 50, "b")] * 60
        self.assertEqual(in_time(self, pieces.size_of, WIDEST, row), 60 * (1 + 59 + 30 + 50 + 1))

    def test_texts_of_1000_signs(self):
        for ground in GREAT:
            for order in some_orders(ground, 2):
                row = in_time(self, pieces.told_text, ground, order, "a" + "b" * 60 + "a")
                long = [position for position, told in enumerate(row) if len(told) == 5]
                late = in_time(self, pieces.retold, ground, order, "a" + "b" * 60 + "a", long[0], 900)
                row = in_time(self, pieces.told_text, ground, order, late)
                self.assertEqual(in_time(self, pieces.text_of, ground, row), late)
                in_time(self, pieces.told_text, ground, order, some_text(ground.signs(), 1000))


class Rules(unittest.TestCase):
    def test_rules_of_width_8(self):
        words = sorted({some_text("abcd", 8, seed) for seed in range(4096)})
        for ground in (Ground("abcd", 4), Ground("abcd", 2), Ground("abcd", 60), WIDEST):
            for rule in ((words, 3), (words[:1], 8), (words[::9], 0)):
                self.assertTrue(in_time(self, rules.is_rule, ground, rule))
                in_time(self, rules.is_apart, ground, rule)
                told = in_time(self, rules.near_marks, ground, rule)
                self.assertIs(in_time(self, rules.is_near_marks, ground, rule, told), told is not None)
                for text in texts_of_120("abcd"):
                    in_time(self, rules.marks, ground, rule, text)
                    in_time(self, rules.is_missed, ground, rule, (text, 60))

    def test_whole_rules_of_6600_words(self):
        # Width and twice the gap less 2, together: 3 ** 8 and 2 ** 12 words.
        for ground, width in ((Ground("abc", 2), 6), (Ground("abc", 3), 4), (Ground("ab", 2), 8), (Ground("ab", 3), 8)):
            for many in (1, 2, 20):
                rule = (sorted({some_text(ground.signs(), width, seed) for seed in range(many)}), width // 2)
                in_time(self, rules.is_whole, ground, rule)
                told = in_time(self, rules.missed, ground, rule)
                self.assertIs(in_time(self, rules.is_missed, ground, rule, told), told is not None)
        ground = Ground("abc", 2)
        own = [a + one + b for a in ("aa", "bb") for one in own_windows(ground) for b in ("aa", "cc")]
        in_time(self, rules.is_whole, ground, (sorted(own), 3))

    def test_widths_at_gaps_up_to_60(self):
        for text in texts_of_120("ab"):
            for width, at in ((1, 0), (8, 4), (60, 30), (120, 120), (120, 0)):
                in_time(self, rules.markable, WIDEST, width, at, text)
        for width in (1, 8, 59, 60, 100, 116, 117, 120):
            text = in_time(self, rules.blind_text, WIDEST, width, 120)
            self.assertIs(in_time(self, rules.is_blind_text, WIDEST, width, 120, text), width < 117)
            in_time(self, rules.is_blind_text, WIDEST, width, 120, "ab" * 500)

    def test_reach_and_rule_of(self):
        for ground in MIDDLE:
            for order in some_orders(ground):
                in_time(self, rules.reach, ground, order)
        for ground, most in ((Ground("ab", 2), 2), (Ground("abc", 2), 3)):
            rule = in_time(self, rules.rule_of, ground, orders.plain_order(ground))
            self.assertEqual(rule[1], most)
            self.assertTrue(in_time(self, rules.is_whole, ground, rule))


class Rings(unittest.TestCase):
    def test_rings_of_40_signs(self):
        for ground in GREAT:
            for order in some_orders(ground, 2):
                for ring in ("a" * 40, "ab" * 20, "a" * 39 + "b", some_text(ground.signs(), 40), "aab" * 13):
                    found = in_time(self, rings.ring_cuts, ground, order, ring)
                    in_time(self, rings.ring_pieces, ground, order, ring)
                    self.assertTrue(in_time(self, rings.is_ring_order_for, ground, ring, found, order))
                    other = in_time(self, rings.ring_order_for, ground, ring, found)
                    self.assertTrue(in_time(self, rings.is_ring_order_for, ground, ring, found, other))
                    in_time(self, rings.ring_order_for, ground, ring, found[::2])

    def test_windows_at_gaps_up_to_60(self):
        for ring in ("a" * 40, "ab" * 20, some_text(LETTERS, 40), "z"):
            self.assertEqual({len(window) for window in in_time(self, rings.ring_windows, WIDEST, ring)}, {118})

    def test_turning(self):
        ring = some_text("ab", 40)
        self.assertEqual(len(in_time(self, rings.rotated, ring, HUGE)), 40)
        self.assertEqual(len(in_time(self, rings.unrolled, ring, 25)), 1000)
        self.assertEqual(in_time(self, rings.rotations_to, "ab" * 20, "ba" * 20), list(range(1, 40, 2)))
        for ground in MIDDLE:
            in_time(self, rings.sure_part, ground, orders.plain_order(ground), ring, HUGE)


class Views(unittest.TestCase):
    def test_views_and_twins(self):
        for ground in MIDDLE:
            for order in some_orders(ground, 2):
                found = in_time(self, views.views, ground, order)
                for view in found[::len(found) // 3]:
                    self.assertTrue(in_time(self, views.is_view, ground, order, view))
                    in_time(self, views.next_views, ground, order, view)
                    value = in_time(self, views.text_of_view, ground, order, view)
                    self.assertLessEqual(len(value[0]), 1000)
                    self.assertTrue(in_time(self, views.is_text_of_view, ground, order, view, value))
                pairs = in_time(self, views.twins, ground, order)
                high = in_time(self, views.heights, ground, order)
                in_time(self, views.tolls, ground, order)
                for twin in [max(pairs, key=lambda pair: high[pair]), pairs[0], pairs[-1]]:
                    value = in_time(self, views.texts_of_twin, ground, order, twin)
                    self.assertLessEqual(max(len(value[0]), len(value[1])), 1000)
                    self.assertTrue(in_time(self, views.is_texts_of_twin, ground, order, twin, value))

    def test_fates(self):
        for ground in MIDDLE:
            for order in some_orders(ground, 2)[1:]:
                for word in (some_text(ground.signs(), 60), "a" * 60, "b" * 60, "ab" * 30):
                    told = in_time(self, views.fates, ground, order, word)
                    self.assertEqual(len(told), 61)
                    self.assertEqual(len(in_time(self, views.fates_begun, ground, order, word + word)), 121)
                    for place in (0, 30, 60):
                        one = in_time(self, views.text_with_cut, ground, order, word, place)
                        other = in_time(self, views.text_without_cut, ground, order, word, place)
                        self.assertEqual(told[place], "open" if one and other else "cut" if one else "bare")
                        for value in (one, other):
                            self.assertTrue(value is None or len(value[0]) <= 1000)
                            in_time(self, views.is_text_with_cut, ground, order, word, place, value)
                    in_time(self, views.text_without_cut, ground, order, word + word, 60)
                for at in (-HUGE, 0, 60, HUGE):
                    in_time(self, views.view_at, ground, order, some_text(ground.signs(), 120), at)


if __name__ == "__main__":
    unittest.main()
