"""Points [43] to [48]: rules of any width."""

import itertools
import random
import unittest

from owncuts import errors
from owncuts.grounds import Ground
from owncuts.orders import greatest_depth
from owncuts.rounds import order_of
from owncuts.rules import (
    blind_text, is_apart, is_blind_text, is_missed, is_near_marks, is_rule, is_whole, markable, marks, missed, near_marks,
    reach, rule_of)
from support import (
    ANY_OBJECTS, NO_RULES, ORDER, PAIRS, PLAIN, ROUNDS, TWO, plain_cuts, plain_periods, plain_sites, some_orders, texts_up_to)

WIDE = Ground("ab", 3)
FOUR = Ground("ab", 4)


def words_of(ground, width):
    return ["".join(word) for word in itertools.product(ground.signs(), repeat=width)]


def plain_seen(ground, text, place, width, at):
    row = dict(enumerate(text))
    return "".join(row.get(one, ground.signs()[0]) for one in range(place - at, place - at + width))


def plain_marks(ground, rule, text, outside=0):
    words, at = rule
    return [place for place in range(-outside, len(text) + outside + 1)
            if plain_seen(ground, text, place, len(words[0]), at) in words]


def repeats(ground, word):
    return any(period < ground.gap() for period in plain_periods(word))


def some_rules(ground, width, many, seed=0):
    dice = random.Random(seed)
    words = words_of(ground, width)
    for _ in range(many):
        yield sorted(dice.sample(words, dice.randint(1, max(1, len(words) // 3)))), dice.randint(0, width)


class Rules(unittest.TestCase):
    def test_is_rule(self):
        for rule in ((["a"], 0), (["a"], 1), (["ab", "ba"], 2), (["aab", "aba", "bbb"], 1), (words_of(WIDE, 4), 4)):
            self.assertIs(is_rule(WIDE, rule), True)
        self.assertIs(is_rule(WIDE, (["ac"], 1)), False)
        for value in ANY_OBJECTS + NO_RULES:
            self.assertIs(is_rule(WIDE, value), False, value)

    def test_marks(self):
        for ground, width in ((TWO, 1), (TWO, 3), (PAIRS, 2), (WIDE, 4), (WIDE, 5)):
            for rule in some_rules(ground, width, 12):
                for text in texts_up_to(ground.signs(), 6)[::5]:
                    self.assertEqual(marks(ground, rule, text), plain_marks(ground, rule, text), (rule, text))
        self.assertEqual(marks(TWO, (["aa"], 1), ""), [0])
        self.assertEqual(marks(TWO, (["b"], 0), "ab"), [1])
        self.assertEqual(marks(TWO, (["b"], 1), "ab"), [2])


class Apart(unittest.TestCase):
    def check(self, ground, rule):
        width = len(rule[0][0])
        texts = [text for text in texts_up_to(ground.signs(), width + ground.gap() - 1) if len(text) >= width]
        near = False
        for text in texts:
            found = plain_marks(ground, rule, text)
            near = near or any(0 < other - one < ground.gap() for one in found for other in found)
        self.assertIs(is_apart(ground, rule), not near, rule)
        told = near_marks(ground, rule)
        self.assertIs(told is not None, near)
        if near:
            self.assertLessEqual(len(told[0]), width + ground.gap())
            self.assertIs(is_near_marks(ground, rule, told), True)
        else:
            self.assertIs(is_near_marks(ground, rule, None), False)

    def test_every_small_rule(self):
        for ground, width in ((TWO, 1), (TWO, 2), (PAIRS, 1), (WIDE, 1), (WIDE, 2), (FOUR, 2)):
            words = words_of(ground, width)
            for many in range(1, len(words) + 1):
                for chosen in itertools.combinations(words, many):
                    for at in range(width + 1):
                        self.check(ground, (list(chosen), at))

    def test_some_wider_ones(self):
        for ground, width in ((TWO, 3), (TWO, 4), (WIDE, 4), (WIDE, 5), (FOUR, 4)):
            for word in words_of(ground, width):
                self.check(ground, ([word], width // 2))
            for rule in some_rules(ground, width, 8):
                self.check(ground, rule)

    def test_side_by_side_is_near_where_the_width_is_less_than_the_gap(self):
        self.assertIs(is_apart(FOUR, (["ab"], 1)), False)
        self.assertIs(is_apart(WIDE, (["ab"], 1)), False)
        self.assertIs(is_apart(TWO, (["ab"], 1)), True)
        self.assertIs(is_apart(Ground("ab", 9), (["aab"], 0)), False)

    def test_is_near_marks(self):
        for ground, rule in ((WIDE, (["aab", "aba"], 1)), (TWO, (["ab", "ba"], 1)), (WIDE, (["ab"], 2)), (TWO, (["ab"], 1))):
            for text in texts_up_to("ab", 5):
                found = plain_marks(ground, rule, text)
                for one, other in itertools.product(range(-1, 7), repeat=2):
                    right = one in found and other in found and 0 < other - one < ground.gap()
                    self.assertIs(is_near_marks(ground, rule, (text, one, other)), right)
        for value in ANY_OBJECTS + [["aba", 1, 2], ("aba", 1), ("aba", 1, 2, 3), ("aba", True, 2), ("aba", 1, "2"), ("abc", 1, 2),
                                    ("aba", 1, None), (("a", "b", "a"), 1, 2), ("aba", 2, 1), ("aba", 10 ** 29, 10 ** 29 + 1)]:
            self.assertIs(is_near_marks(TWO, (["ab", "ba"], 1), value), False, value)
        self.assertIs(is_near_marks(TWO, (["ab", "ba"], 1), ("aba", 1, 2)), True)
        self.assertIs(is_near_marks(TWO, (["aa"], 1), ("", 0, 1)), False)
        self.assertIs(is_near_marks(TWO, (["aa"], 1), ("a", 0, 1)), True)


class Markable(unittest.TestCase):
    def test_what_some_rule_that_is_apart_marks(self):
        for ground in (TWO, PAIRS, WIDE, FOUR):
            for width in range(1, 6):
                # What a rule marks that is apart, that a rule of the one word seen there marks, and is apart, too.
                apart = {word for word in words_of(ground, width) if is_apart(ground, ([word], 0))}
                for at in range(width + 1):
                    for text in texts_up_to(ground.signs(), 6)[::13]:
                        right = [place for place in range(len(text) + 1)
                                 if plain_seen(ground, text, place, width, at) in apart]
                        self.assertEqual(markable(ground, width, at, text), right)

    def test_exactly_words_of_gap_signs_without_a_short_period(self):
        for ground in (TWO, WIDE, FOUR):
            for width in range(1, 8):
                for word in words_of(ground, width):
                    free = len(word) >= ground.gap() and not repeats(ground, word)
                    self.assertIs(0 in markable(ground, width, 0, word), free, word)

    def test_great_widths(self):
        great = 10 ** 29
        for ground, text in ((WIDE, "aabab"), (WIDE, "aaa"), (WIDE, ""), (FOUR, "b"), (TWO, "aba")):
            for at, small in ((0, 0), (1, 1), (great // 2, 40), (great - 1, 79), (great, 80)):
                right = [place for place in range(len(text) + 1)
                         if not repeats(ground, plain_seen(ground, text, place, 80, small))]
                self.assertEqual(markable(ground, great, at, text), right, (text, at))

    def test_at_is_at_most_the_width(self):
        self.assertEqual(markable(WIDE, 4, 4, "aabbb"), [3, 4, 5])
        for at in (5, -1, True, None, 10 ** 29):
            with self.assertRaises(errors.InvalidNumber) as told:
                markable(WIDE, 4, at, "aabbb")
            self.assertIs(told.exception.value, at)


class Blind(unittest.TestCase):
    def is_right(self, ground, width, least, text):
        seen = [text[first:first + width] for first in range(len(text) - width + 1)]
        return (len(text) >= max(width, least) and not repeats(ground, text)
                and all(len(word) < ground.gap() or repeats(ground, word) for word in seen))

    def test_is_blind_text(self):
        for ground in (TWO, WIDE, FOUR):
            for text in texts_up_to("ab", 9):
                for width in range(1, 8):
                    for least in (0, 5, 9):
                        right = self.is_right(ground, width, least, text)
                        self.assertIs(is_blind_text(ground, width, least, text), right, (ground.gap(), width, least, text))

    def test_there_is_one_exactly_at_small_widths(self):
        for ground, most in ((TWO, 8), (WIDE, 10), (FOUR, 12)):
            for width in range(1, 8):
                some = any(self.is_right(ground, width, 0, text) for text in texts_up_to("ab", most))
                self.assertIs(blind_text(ground, width, 0) is not None, some)

    def test_blind_text(self):
        for gap in list(range(2, 12)) + [59, 60]:
            for signs in ("ab", "xyz"):
                ground = Ground(signs, gap)
                for width in [*range(1, min(2 * gap + 2, 26)), 2 * gap - 4, 2 * gap - 3, 10 ** 29]:
                    for least in (0, 1, 2, 3, gap, 2 * gap - 3, 40, 120):
                        if width >= 1:
                            text = blind_text(ground, width, least)
                            self.assertIs(text is not None, width < (2 if gap == 2 else 2 * gap - 3))
                            if text is not None:
                                self.assertTrue(self.is_right(ground, width, least, text), (gap, width, least, text))
                                self.assertEqual(text.strip(signs), "")
                                self.assertLessEqual(len(text), 2 * (width + least) + 4 * gap)
                                self.assertIs(is_blind_text(ground, width, least, text), True)
                                self.assertIs(is_blind_text(ground, width, len(text) + 1, text), False)

    def test_other_things_are_none(self):
        for value in ANY_OBJECTS + ["abaabaabc", "abaabaaabbab", "ABAABAABABAB", ("abaabaababab",)]:
            self.assertIs(is_blind_text(FOUR, 4, 8, value), False, value)
        self.assertIs(is_blind_text(FOUR, 4, 8, "abaabaababab"), True)
        self.assertIs(is_blind_text(FOUR, 4, 13, "abaabaababab"), False)
        self.assertIs(is_blind_text(FOUR, 10 ** 29, 8, "abaabaababab"), False)
        self.assertIs(is_blind_text(FOUR, 4, 10 ** 29, "abaabaababab"), False)


class Whole(unittest.TestCase):
    def missing(self, ground, rule, text):
        """The places of a text that are missed."""
        marked = plain_marks(ground, rule, text, 9)
        return [place for place in plain_sites(ground, text) if 0 <= place <= len(text)
                and not any(abs(place - other) < ground.gap() for other in marked)]

    def check(self, ground, rule, texts):
        told = missed(ground, rule)
        some = any(self.missing(ground, rule, text) for text in texts)
        self.assertIs(told is not None, some, rule)
        self.assertIs(is_whole(ground, rule), is_apart(ground, rule) and not some)
        if told is not None:
            self.assertLessEqual(len(told[0]), len(rule[0][0]) + 2 * ground.gap() - 2)
            self.assertIn(told[1], self.missing(ground, rule, told[0]))
            self.assertIs(is_missed(ground, rule, told), True)

    def test_every_small_rule(self):
        for width in (1, 2):
            words = words_of(TWO, width)
            texts = texts_up_to("ab", width + 2)
            for many in range(1, len(words) + 1):
                for chosen in itertools.combinations(words, many):
                    for at in range(width + 1):
                        self.check(TWO, (list(chosen), at), texts)

    def test_some_wider_ones(self):
        for ground, width in ((TWO, 3), (TWO, 4), (WIDE, 4)):
            texts = words_of(ground, width + 2 * ground.gap() - 2)
            for seed in range(3):
                for rule in some_rules(ground, width, 6, seed):
                    self.check(ground, rule, texts)

    def test_marked_windows_that_are_all_own_ones_miss_nothing(self):
        for ground in (TWO, PAIRS, WIDE):
            own = [word for word in words_of(ground, ground.width()) if not repeats(ground, word)]
            rule = (own, ground.gap() - 1)
            self.assertIsNone(missed(ground, rule))
            self.assertIs(is_whole(ground, rule), is_apart(ground, rule))

    def test_is_missed(self):
        for ground, rule in ((TWO, (["ab"], 1)), (WIDE, (["aabb", "abab"], 2)), (WIDE, (["bbb"], 0)), (TWO, (["ab", "ba"], 1))):
            for text in texts_up_to("ab", 6):
                found = self.missing(ground, rule, text)
                for place in range(-2, len(text) + 3):
                    self.assertIs(is_missed(ground, rule, (text, place)), place in found, (text, place))
        for value in ANY_OBJECTS + [["abba", 3], ("abba",), ("abba", 3, 0), ("abba", "3"), ("abbc", 3), ("abba", None), ("b", True),
                                    (("a", "b", "b", "a"), 3), ("abba", 10 ** 29), ("abba", -1), ("ABBA", 3)]:
            self.assertIs(is_missed(TWO, (["ab"], 1), value), False, value)
        self.assertIs(is_missed(TWO, (["ab"], 1), ("abba", 3)), True)
        self.assertIs(is_missed(TWO, (["bb"], 1), ("b", 1)), True)
        self.assertIs(is_missed(TWO, (["bb"], 1), ("b", True)), False)

    def test_no_rule_misses_what_a_mark_outside_covers(self):
        # The mark lies one place behind the text's end.
        rule = (["baaa"], 2)
        self.assertEqual([marks(WIDE, rule, "b"), plain_marks(WIDE, rule, "b", 3)], [[], [2]])
        self.assertIs(is_missed(WIDE, rule, ("b", 0)), False)
        self.assertIs(is_missed(WIDE, (["bbbb"], 2), ("b", 0)), True)


class Reach(unittest.TestCase):
    def test_reach(self):
        for ground in (TWO, PAIRS, WIDE, FOUR):
            for order in some_orders(ground, 4):
                self.assertEqual(reach(ground, order), greatest_depth(ground, order) * (ground.gap() - 1))

    def test_rule_of(self):
        orders = [(TWO, ["ab", "ba"]), (TWO, ["ba", "ab"]), (PAIRS, PLAIN), (PAIRS, order_of(PAIRS, ROUNDS[::-1]))]
        for ground, order in orders:
            rule = rule_of(ground, order)
            self.assertIs(is_rule(ground, rule), True)
            self.assertEqual((len(rule[0][0]), rule[1]), (2 * reach(ground, order), reach(ground, order)))
            for text in texts_up_to(ground.signs(), 8 if ground == TWO else 6)[::2]:
                inside = [place for place in plain_cuts(ground, order, text) if 0 <= place <= len(text)]
                self.assertEqual(marks(ground, rule, text), inside)
            self.assertIs(is_whole(ground, rule), True)
            self.assertIsNone(missed(ground, rule))

    def test_it_has_every_word_that_makes_a_cut(self):
        for order in (["ab", "ba"], ["ba", "ab"]):
            words, at = rule_of(TWO, order)
            right = [word for word in words_of(TWO, 2 * at) if at in plain_cuts(TWO, order, word)]
            self.assertEqual(words, right)
        self.assertEqual(len(rule_of(PAIRS, PLAIN)[0][0]), 6)
        self.assertEqual(reach(WIDE, ORDER), 12)


if __name__ == "__main__":
    unittest.main()
