"""Points [10] to [14]: words and periods."""

import itertools
import unittest

from owncuts import errors
from owncuts.periods import (
    borders, has_period, is_two_period_word, least_period, many_primitives, meeting_length, periods, root, stretches,
    two_period_word)
from support import NO_WORDS, plain_periods, repeats_by, texts_up_to

TEXTS = texts_up_to("ab", 8) + texts_up_to("abc", 5) + ["zyx", "azaza", "abcdefghijklmnopqrstuvwxyz" * 2]
WORDS = [text for text in TEXTS if text != ""]


class Words(unittest.TestCase):
    def test_texts_are_strings_of_letters(self):
        for text in ("", "a", "z", "azaz", "abcdefghijklmnopqrstuvwxyz"):
            periods(text)
        for text in ("A", "Z", "a-", "`", "{", "a ", " a", "a\n", "\n", "0", "aAa", None, True, 0, ["a"], ("a",)):
            with self.assertRaises(errors.InvalidText):
                periods(text)

    def test_words_are_not_empty(self):
        for call in (least_period, root):
            for word in NO_WORDS:
                with self.assertRaises(errors.InvalidWord):
                    call(word)

    def test_the_empty_text_is_a_text(self):
        self.assertEqual([periods(""), borders(""), has_period("", 1), stretches("", 2, 2)], [[], [], False, []])


class Periods(unittest.TestCase):
    def test_periods(self):
        for text in TEXTS:
            self.assertEqual(periods(text), plain_periods(text), text)

    def test_has_period(self):
        for text in TEXTS:
            right = plain_periods(text)
            for period in range(1, len(text) + 4):
                self.assertIs(has_period(text, period), period in right, (text, period))

    def test_least_period(self):
        for word in WORDS:
            self.assertEqual(least_period(word), (plain_periods(word) + [len(word)])[0], word)

    def test_borders(self):
        for text in TEXTS:
            right = [many for many in range(1, len(text)) if text[:many] == text[len(text) - many:]]
            self.assertEqual(borders(text), right, text)
            self.assertEqual(sorted(len(text) - many for many in right), periods(text))

    def test_root(self):
        for word in WORDS:
            right = min((size, word[:size]) for size in range(1, len(word) + 1)
                        if len(word) % size == 0 and word[:size] * (len(word) // size) == word)
            self.assertEqual(root(word), (right[1], len(word) // right[0]), word)

    def test_many_primitives(self):
        for signs in range(1, 5):
            for length in range(1, 7 if signs < 4 else 5):
                words = ["".join(word) for word in itertools.product("abcd"[:signs], repeat=length)]
                right = len([word for word in words if root(word)[1] == 1])
                self.assertEqual(many_primitives(signs, length), right, (signs, length))

    def test_many_primitives_of_all_divisors_make_all_words(self):
        for signs in (1, 2, 26, 27, 10 ** 29 + 3):
            for length in (1, 2, 12, 36, 97, 120):
                parts = [many_primitives(signs, part) for part in range(1, length + 1) if length % part == 0]
                self.assertEqual(sum(parts), signs ** length)


class Meeting(unittest.TestCase):
    def had(self, word, period):
        return repeats_by(word, period)

    def is_right(self, one, other, word):
        """Whether a word has both periods and not the greatest number that divides both."""
        divisor = max(k for k in range(1, one + 1) if one % k == 0 and other % k == 0)
        return (len(word) == one + other - divisor - 1 and self.had(word, one) and self.had(word, other)
                and not self.had(word, divisor))

    def test_meeting_length(self):
        told = {(1, 1): 1, (2, 3): 4, (3, 2): 4, (4, 6): 8, (3, 3): 3, (2, 6): 6, (1, 9): 9, (120, 119): 238}
        for (one, other), right in told.items():
            self.assertEqual(meeting_length(one, other), right)

    def test_periods_meet_from_this_length_on_and_not_ahead(self):
        for one, other in itertools.product(range(1, 6), repeat=2):
            words = texts_up_to("ab", meeting_length(one, other))
            for word in words:
                if len(word) == meeting_length(one, other) and self.had(word, one) and self.had(word, other):
                    self.assertFalse(is_two_period_word(one, other, word))
                if word != "" and len(word) == meeting_length(one, other) - 1:
                    self.assertIs(is_two_period_word(one, other, word), self.is_right(one, other, word))

    def test_two_period_word(self):
        for one, other in itertools.product(range(1, 41), repeat=2):
            word = two_period_word(one, other)
            if one % other == 0 or other % one == 0:
                self.assertIsNone(word)
            else:
                self.assertTrue(self.is_right(one, other, word), (one, other))
                self.assertTrue(is_two_period_word(one, other, word))
                self.assertEqual(word.strip("abcdefghijklmnopqrstuvwxyz"), "")

    def test_there_is_none_where_one_number_divides_the_other(self):
        for one, other in itertools.product(range(1, 6), repeat=2):
            if one % other == 0 or other % one == 0:
                for value in texts_up_to("abc", 5) + [None]:
                    self.assertIs(is_two_period_word(one, other, value), False)

    def test_other_words_and_other_things_are_none(self):
        self.assertTrue(is_two_period_word(2, 3, "aba"))
        self.assertTrue(is_two_period_word(3, 2, "zyz"))
        self.assertTrue(is_two_period_word(4, 6, "xaxbxax"))
        wrong = ["aaa", "aab", "abc", "ab", "abab", "", "ABA", "a-a", "aBa", None, True, 3, ("a", "b", "a"),
                 ["a", "b", "a"], ["aba"], ("aba",), {"aba": 1}]
        for value in wrong:
            self.assertIs(is_two_period_word(2, 3, value), False, value)
        for value in ("xaxbxa", "xaxbxaxb", "xaxaxax", "xaxbxay", "xaxbxa-"):
            self.assertIs(is_two_period_word(4, 6, value), False, value)


class Stretches(unittest.TestCase):
    def plain_stretches(self, text, below, least):
        found = []
        for first in range(len(text)):
            for last in range(first, len(text)):
                short = [period for period in plain_periods(text[first:last + 1]) if period < below]
                if last - first + 1 >= least and short:
                    found.append((first, last, short[0]))
        return [row for row in found
                if not any(one[0] <= row[0] and row[1] <= one[1] and one[1] - one[0] > row[1] - row[0] for one in found)]

    def test_stretches(self):
        for text in texts_up_to("ab", 8) + texts_up_to("abc", 5) + ["abaababaabaab", "aabbaabbababab", "abcabcabacbacb"]:
            for below in range(2, 6):
                for least in range(max(2, 2 * below - 3), 2 * below + 1):
                    right = self.plain_stretches(text, below, least)
                    self.assertEqual(stretches(text, below, least), right, (text, below, least))

    def test_the_least_period_is_told(self):
        self.assertEqual(stretches("aaaaaaa", 4, 5), [(0, 6, 1)])
        self.assertEqual(stretches("cababababc", 5, 7), [(1, 8, 2)])

    def test_two_may_share_signs(self):
        self.assertEqual(stretches("abaaab", 3, 3), [(0, 2, 2), (2, 4, 1)])
        self.assertEqual(stretches("aababbb", 3, 3), [(1, 4, 2), (4, 6, 1)])

    def test_two_share_fewer_signs_than_the_least(self):
        for text in texts_up_to("ab", 10):
            for below in range(2, 5):
                least = max(2, 2 * below - 3)
                rows = stretches(text, below, least)
                for one, other in zip(rows, rows[1:]):
                    self.assertLess(one[1] - other[0] + 1, least)

    def test_refused_below_twice_the_number_less_three(self):
        for below in range(3, 12):
            stretches("abaab", below, 2 * below - 3)
            least = 2 * below - 4
            with self.assertRaises(errors.Refused) as told:
                stretches("abaab", below, least)
            self.assertIs(told.exception.value, least)
        self.assertEqual(stretches("aab", 2, 2), [(0, 1, 1)])

    def test_numbers_begin_at_two(self):
        for below, least, wrong in ((1, 9, 1), (9, 1, 1), (0, 0, 0), (2, 1, 1), (-3, 5, -3)):
            with self.assertRaises(errors.InvalidNumber) as told:
                stretches("abaab", below, least)
            self.assertEqual(told.exception.value, wrong)


if __name__ == "__main__":
    unittest.main()
