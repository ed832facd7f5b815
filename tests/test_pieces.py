"""Points [35] to [42]: pieces."""

import itertools
import random
import unittest

from owncuts import errors
from owncuts.cuts import cuts
from owncuts.grounds import Ground, own_windows
from owncuts.pieces import (
    cut_at, holding, is_long, is_short, is_told, is_told_text, joined, pieces, places_between, retold, size_of, sure_cuts,
    sure_pieces, text_of, told_again, told_of, told_text, turn_of, word_of)
from support import (
    ANY_OBJECTS, NO_PLACES, NO_TOLD, NO_WORD_LISTS, ORDER, PAIRS, PLAIN, TWO, plain_cuts, plain_periods, some_orders,
    texts_up_to)

WIDE = Ground("ab", 3)
FOUR = Ground("ab", 4)
CASES = [(TWO, texts_up_to("ab", 8)), (PAIRS, texts_up_to("abc", 5)), (WIDE, texts_up_to("ab", 8) + ["aabbbbbbbbabababababba"]),
         (FOUR, texts_up_to("ab", 10)[::17] + ["babaabaabaabaabaaabababababb"])]
GREAT = 10 ** 20


def plain_pieces(ground, order, text):
    ends = [0] + [place for place in plain_cuts(ground, order, text) if 0 < place < len(text)] + [len(text)]
    return [text[first:behind] for first, behind in zip(ends, ends[1:]) if first < behind]


def plain_is_long(ground, word):
    return len(word) >= 2 * ground.gap() and any(period < ground.gap() for period in plain_periods(word[1:-1]))


def plain_told(word, long):
    if not long:
        return (word,)
    inside = word[1:-1]
    period = plain_periods(inside)[0]
    times = len(inside) // period
    return (word[0], inside[:period], times, inside[times * period:], word[-1])


class Pieces(unittest.TestCase):
    def test_pieces(self):
        for ground, texts in CASES:
            for order in some_orders(ground):
                for text in texts[::2]:
                    self.assertEqual(pieces(ground, order, text), plain_pieces(ground, order, text))
        self.assertEqual(pieces(TWO, ["ab", "ba"], ""), [])
        self.assertEqual(pieces(TWO, ["ab", "ba"], "b"), ["b"])

    def test_each_is_short_or_long_and_has_gap_signs_between_inner_cuts(self):
        for ground, texts in CASES:
            for order in some_orders(ground, 5):
                for text in texts[::3]:
                    found = pieces(ground, order, text)
                    for piece in found:
                        self.assertTrue(is_short(ground, piece) or is_long(ground, piece), (text, piece))
                    for piece in found[1:-1]:
                        self.assertGreaterEqual(len(piece), ground.gap())

    def test_cut_at(self):
        for text in texts_up_to("az", 5):
            for many in range(len(text)):
                for places in itertools.combinations(range(1, len(text)), many):
                    words = cut_at(text, list(places))
                    self.assertEqual("".join(words), text)
                    self.assertEqual([sum(map(len, words[:at])) for at in range(1, len(words))], list(places))
                    self.assertEqual(joined(words), text)
                    self.assertEqual(places_between(words), list(places))
        self.assertEqual(cut_at("", []), [])
        for places in NO_PLACES + [[0], [6], [5], [-1, 2], [1, 5], [10 ** 29]]:
            with self.assertRaises(errors.InvalidCuts) as told:
                cut_at("abaab", places)
            self.assertIs(told.exception.value, places)
        for places in ([0], [1]):
            with self.assertRaises(errors.InvalidCuts):
                cut_at("", places)

    def test_joined_and_places_between(self):
        self.assertEqual([joined([]), places_between([])], ["", []])
        self.assertEqual([joined(["abc"]), places_between(["abc"])], ["abc", []])
        self.assertEqual([joined(["z", "yx", "w"]), places_between(["z", "yx", "w"])], ["zyxw", [1, 3]])
        for value in NO_WORD_LISTS:
            for call in (joined, places_between):
                with self.assertRaises(errors.InvalidPieces) as told:
                    call(value)
                self.assertIs(told.exception.value, value)

    def test_holding(self):
        for ground, texts in CASES:
            for order in some_orders(ground, 2):
                for text in texts[::9]:
                    ends = [0] + places_between(plain_pieces(ground, order, text)) + [len(text)]
                    for at in range(len(text)):
                        which = max(k for k in range(len(ends) - 1) if ends[k] <= at)
                        self.assertEqual(holding(ground, order, text, at), (which, ends[which], ends[which + 1]))
                    for at in (len(text), -1, True, None):
                        with self.assertRaises(errors.InvalidPlace) as told:
                            holding(ground, order, text, at)
                        self.assertIs(told.exception.value, at)


class Told(unittest.TestCase):
    def each(self):
        for ground, most in ((TWO, 9), (PAIRS, 6), (WIDE, 11), (FOUR, 12)):
            for word in texts_up_to(ground.signs(), most)[1:]:
                yield ground, word

    def test_short_and_long(self):
        for ground, word in self.each():
            self.assertIs(is_short(ground, word), len(word) < 2 * ground.gap())
            self.assertIs(is_long(ground, word), plain_is_long(ground, word))

    def test_told_of_and_back(self):
        for ground, word in self.each():
            long = plain_is_long(ground, word)
            if long or len(word) < 2 * ground.gap():
                told = told_of(ground, word)
                self.assertEqual(told, plain_told(word, long))
                self.assertIs(is_told(ground, told), True)
                self.assertEqual(word_of(ground, told), word)
            else:
                with self.assertRaises(errors.Refused) as told:
                    told_of(ground, word)
                self.assertIs(told.exception.value, word)

    def test_turn_of(self):
        for ground, word in self.each():
            if plain_is_long(ground, word):
                self.assertEqual(turn_of(ground, word), plain_told(word, True)[1])
            else:
                with self.assertRaises(errors.Refused) as told:
                    turn_of(ground, word)
                self.assertIs(told.exception.value, word)

    def test_is_told_of_all_tuples(self):
        for ground in (TWO, WIDE, FOUR):
            words = texts_up_to("ab", 2 * ground.gap() - 1)[1:]
            words += [word for word in texts_up_to("ab", 12)[1:] if plain_is_long(ground, word)]
            right = {plain_told(word, len(word) >= 2 * ground.gap()) for word in words}
            parts = texts_up_to("ab", ground.gap())
            for word in texts_up_to("ab", 9):
                self.assertIs(is_told(ground, (word,)), (word,) in right)
            for turn, times, rest in itertools.product(parts, range(5), parts):
                if len(turn) * times + len(rest) <= 10:
                    self.assertIs(is_told(ground, ("a", turn, times, rest, "b")), ("a", turn, times, rest, "b") in right)

    def test_other_things_are_not_told(self):
        for value in NO_TOLD + [value for value in ANY_OBJECTS if value != ("a",)]:
            self.assertIs(is_told(WIDE, value), False, value)
            with self.assertRaises(errors.InvalidTold) as told:
                word_of(WIDE, value)
            self.assertIs(told.exception.value, value)

    def test_times_may_be_any_number(self):
        self.assertIs(is_told(WIDE, ("a", "ab", 10 ** 30 - 1, "a", "b")), True)
        self.assertIs(is_told(WIDE, ("a", "ab", 10 ** 30 - 1, "b", "b")), False)
        self.assertIs(is_told(WIDE, ("a", "abab", 10 ** 30 - 1, "", "b")), False)
        self.assertEqual(size_of(WIDE, [("a", "ab", 10 ** 29, "a", "b"), ("abba",), ("b",)]), 5 + 30 + 5)

    def test_told_text_and_text_of(self):
        for ground, texts in CASES:
            for order in some_orders(ground, 2):
                for text in texts[::3]:
                    row = told_text(ground, order, text)
                    self.assertEqual(row, [told_of(ground, piece) for piece in plain_pieces(ground, order, text)])
                    self.assertEqual(text_of(ground, row), text)
        # It may be no text's list of pieces.
        self.assertEqual(text_of(WIDE, [("a",), ("a",), ("b", "a", 4, "", "b"), ("ab",)]), "aabaaaabab")
        self.assertEqual(text_of(WIDE, []), "")

    def test_size_of(self):
        self.assertEqual(size_of(WIDE, []), 0)
        self.assertEqual(size_of(WIDE, [("abbab",), ("a",)]), 6)
        self.assertEqual(size_of(WIDE, [("a", "ab", 12, "a", "b"), ("a", "b", 9, "", "a")]), 5 + 2 + 3 + 1)


class Sure(unittest.TestCase):
    def test_of_all_orders(self):
        every = [list(order) for order in itertools.permutations(PLAIN)]
        for text in texts_up_to("abc", 4) + ["aabbab", "bbaabb", "aabbccaab", "ccbbaac"]:
            told = {tuple(cuts(PAIRS, order, text)) for order in every}
            sure = set.intersection(*[set(found) for found in told])
            self.assertEqual(sure_cuts(PAIRS, text), sorted(sure), text)
            spans = []
            for found in told:
                ends = [0] + [place for place in found if 0 < place < len(text)] + [len(text)]
                spans.append({span for span in zip(ends, ends[1:]) if span[0] < span[1]})
            self.assertEqual(sure_pieces(PAIRS, text), sorted(set.intersection(*spans)), text)

    def test_of_wider_grounds(self):
        firsts = [[one] + [other for other in ORDER if other != one] for one in ORDER]
        for text in texts_up_to("ab", 7):
            self.assertEqual(sure_cuts(WIDE, text), [])
            spans = []
            for order in firsts + some_orders(WIDE):
                ends = [0] + places_between(plain_pieces(WIDE, order, text)) + [len(text)]
                spans.append({span for span in zip(ends, ends[1:]) if span[0] < span[1]})
            self.assertEqual(sure_pieces(WIDE, text), sorted(spans[0].intersection(*spans)), text)

    def test_any_own_place_is_a_cut_by_some_order(self):
        for text in texts_up_to("ab", 6):
            for window in own_windows(WIDE):
                order = [window] + [other for other in ORDER if other != window]
                found = plain_cuts(WIDE, order, text)
                for place in range(2, len(text) - 1):
                    if text[place - 2:place + 2] == window:
                        self.assertIn(place, found)


class Retold(unittest.TestCase):
    def test_all_other_pieces_stay(self):
        for ground, texts in CASES:
            for order in some_orders(ground):
                for text in texts[::2]:
                    row = told_text(ground, order, text)
                    for position, told in enumerate(row):
                        for times in range(9) if len(told) == 5 else []:
                            other = row[:position] + [(*told[:2], times, *told[3:])] + row[position + 1:]
                            if len(told[1]) * times + len(told[3]) + 2 >= 2 * ground.gap():
                                late = retold(ground, order, text, position, times)
                                self.assertEqual(told_text(ground, order, late), other)
                            else:
                                with self.assertRaises(errors.Refused) as error:
                                    retold(ground, order, text, position, times)
                                self.assertIs(error.exception.value, times)

    def test_refused(self):
        text = "aabbbbbaa"
        for position, times, value in ((0, 5, 0), (2, 5, 2), (1, 3, 3), (1, 0, 0), (0, 0, 0)):
            with self.assertRaises(errors.Refused) as told:
                retold(WIDE, ORDER, text, position, times)
            self.assertEqual(told.exception.value, value)
        # The position is looked at ahead of the number, and both ahead of what is refused.
        position = 10 ** 20 - 10 ** 20 + 2
        times = 10 ** 20
        with self.assertRaises(errors.Refused) as told:
            retold(WIDE, ORDER, text, position, times)
        self.assertIs(told.exception.value, position)
        for position, times, kind in ((0, True, errors.InvalidNumber), (0, -1, errors.InvalidNumber), (3, -1, errors.InvalidPlace),
                                      (True, 5, errors.InvalidPlace), (-1, 5, errors.InvalidPlace)):
            with self.assertRaises(kind):
                retold(WIDE, ORDER, text, position, times)
        with self.assertRaises(errors.InvalidPlace):
            retold(WIDE, ORDER, "", 0, 5)


class ToldAgain(unittest.TestCase):
    def rows(self, ground, seed, most):
        """Lists of told words of any kind, always the same."""
        dice = random.Random(seed)
        turns = [turn for turn in texts_up_to(ground.signs(), ground.gap() - 1)[1:]
                 if is_told(ground, ("a", turn, 2 * ground.gap(), "", "a"))]
        for _ in range(most):
            row = []
            for _ in range(dice.randrange(6)):
                if dice.randrange(2):
                    row.append(("".join(dice.choices(ground.signs(), k=dice.randint(1, 2 * ground.gap() - 1))),))
                else:
                    turn = dice.choice(turns)
                    times = dice.randint(2 * ground.gap() - 2, 25)
                    rest = turn[:dice.randrange(len(turn))]
                    row.append((dice.choice(ground.signs()), turn, times, rest, dice.choice(ground.signs())))
            yield row

    def test_as_if_the_text_were_written(self):
        for seed, ground in enumerate([TWO, PAIRS, WIDE, FOUR, Ground("abc", 3)]):
            for order in some_orders(ground):
                for row in self.rows(ground, seed, 60):
                    right = told_text(ground, order, text_of(ground, row))
                    self.assertEqual(told_again(ground, order, row), right, row)
                    self.assertIs(is_told_text(ground, order, row), row == right)
                    self.assertIs(is_told_text(ground, order, right), True)

    def test_with_times_that_no_text_could_have(self):
        for seed, ground in enumerate([TWO, PAIRS, WIDE, FOUR]):
            for order in some_orders(ground, 2):
                for short in self.rows(ground, seed, 40):
                    row = [told if len(told) == 1 else (*told[:2], told[2] + 20, *told[3:]) for told in short]
                    # Each of many times more gives the one long piece that holds its middle as many more.
                    great = [told if len(told) == 1 else (*told[:2], told[2] + GREAT, *told[3:]) for told in row]
                    found = told_again(ground, order, great)
                    less = [told if len(told) == 1 else (*told[:2], told[2] % GREAT, *told[3:]) for told in found]
                    self.assertEqual(less, told_text(ground, order, text_of(ground, row)))
                    self.assertEqual(sum(told[2] // GREAT for told in found if len(told) == 5),
                                     sum(len(told) == 5 for told in row))
                    self.assertIs(is_told_text(ground, order, found), True)

    def test_long_ones_may_become_one(self):
        row = [("b", "b", 10 ** 29, "", "b"), ("b",), ("b", "b", 10 ** 29, "", "b")]
        self.assertEqual(told_again(WIDE, ORDER, row), told_again(WIDE, ORDER, [("b", "b", 2 * 10 ** 29 + 3, "", "b")]))
        self.assertEqual(told_again(WIDE, ORDER, [("a", "a", 10 ** 29, "", "a")]), [("a", "a", 10 ** 29, "", "a")])
        self.assertEqual(told_again(WIDE, ORDER, []), [])
        self.assertIs(is_told_text(WIDE, ORDER, []), True)
        self.assertIs(is_told_text(WIDE, ORDER, [("a",), ("a",)]), False)


if __name__ == "__main__":
    unittest.main()
