"""Points [72] and [73]: orders that cut alike, and idle windows."""

import itertools
import random
import unittest

from calls import NO_LISTS
from owncuts import errors
from owncuts.cuts import cuts
from owncuts.grounds import Ground, are_near
from owncuts.likeness import cut_alike, cuts_by_list, idle_windows, is_parting_text, least_list, parting_text
from owncuts.views import views
from support import ANY_OBJECTS, GROUND, ORDER, PAIRS, PLAIN, TWO, plain_cuts, plain_sites, some_orders, texts_up_to

AB = ["ab", "ba"]
OTHER = ["ba", "ab", "ac", "bc", "ca", "cb"]


def shuffled(rows, seed):
    found = list(rows)
    random.Random(seed).shuffle(found)
    return found


def plain_cuts_by_list(ground, row, text):
    """The cuts by a list, told window by window, in its sequence."""
    sites = plain_sites(ground, text)
    found = []
    for window in row:
        for place in [place for place in sites if sites[place] == window]:
            # Two places of one own window are never less than the gap apart.
            if all(abs(place - other) >= ground.gap() for other in found):
                found.append(place)
    return sorted(found)


def ranked_alike(ground, one, other):
    """Whether of any two near windows the same one has the lesser rank in both orders."""
    return all((one.index(a) < one.index(b)) == (other.index(a) < other.index(b))
               for a, b in itertools.combinations(one, 2) if are_near(ground, a, b))


class Alike(unittest.TestCase):
    def test_at_gap_2_by_all_short_texts_and_by_ranks(self):
        for ground, most, many in ((TWO, 6, 2), (PAIRS, 5, 24)):
            orders = [shuffled(plain, seed) for plain in (ground_order(ground),) for seed in range(many)]
            orders += [row[:2][::-1] + row[2:] for row in orders[:6]]
            told = [[cuts(ground, order, text) for text in texts_up_to(ground.signs(), most)] for order in orders]
            yes = 0
            for one, other in itertools.product(range(len(orders)), repeat=2):
                right = told[one] == told[other]
                yes += right
                self.assertIs(cut_alike(ground, orders[one], orders[other]), right, (orders[one], orders[other]))
                self.assertIs(ranked_alike(ground, orders[one], orders[other]), right)
            self.assertGreater(yes, len(orders))

    def test_at_gap_3_windows_side_by_side_in_rank(self):
        texts = texts_up_to("ab", 11)
        for order in (ORDER, shuffled(ORDER, 4), shuffled(ORDER, 5)):
            told = {text: cuts(GROUND, order, text) for text in texts}
            for at in range(len(order) - 1):
                other = order[:at] + order[at:at + 2][::-1] + order[at + 2:]
                right = all(cuts(GROUND, other, text) == told[text] for text in texts)
                self.assertIs(cut_alike(GROUND, order, other), right, (order, at))
                if not are_near(GROUND, order[at], order[at + 1]):
                    self.assertTrue(right)

    def test_at_gap_3_orders_of_any_kind(self):
        texts = texts_up_to("ab", 11)
        for seed in range(8):
            order = shuffled(ORDER, seed)
            # Idle windows may stand anywhere.
            least = least_list(GROUND, order)
            other = least + shuffled([window for window in order if window not in least], seed)
            self.assertIs(cut_alike(GROUND, order, other), True)
            self.assertEqual([cuts(GROUND, order, text) for text in texts], [cuts(GROUND, other, text) for text in texts])
            late = shuffled(order, seed + 50)
            right = all(cuts(GROUND, order, text) == cuts(GROUND, late, text) for text in texts)
            self.assertIs(cut_alike(GROUND, order, late), right)

    def test_parting_text(self):
        for ground in (TWO, PAIRS, GROUND, Ground("abcd", 2), Ground("ab", 4), Ground("xyz", 2)):
            orders = some_orders(ground, 4)
            for one, other in itertools.product(orders, repeat=2):
                value = parting_text(ground, one, other)
                self.assertIs(value is None, cut_alike(ground, one, other))
                self.assertIs(is_parting_text(ground, one, other, value), value is not None)
                if value is not None:
                    text, place = value
                    self.assertLessEqual(len(text), 1000)
                    self.assertNotEqual(place in plain_cuts(ground, one, text), place in plain_cuts(ground, other, text))

    def test_is_parting_text(self):
        for ground, one, other in ((TWO, AB, AB[::-1]), (PAIRS, PLAIN, OTHER), (PAIRS, PLAIN, PLAIN)):
            for text in texts_up_to(ground.signs(), 4):
                had, has = plain_cuts(ground, one, text), plain_cuts(ground, other, text)
                for place in range(-3, len(text) + 3):
                    right = (place in had) != (place in has)
                    self.assertIs(is_parting_text(ground, one, other, (text, place)), right)
        # A place may lie outside of the text.
        outside = [(text, place) for text in texts_up_to("ab", 6) for place in (-1, len(text) + 1)]
        one, other = ORDER, shuffled(ORDER, 1)
        told = [is_parting_text(GROUND, one, other, value) for value in outside]
        self.assertEqual(told, [(place in plain_cuts(GROUND, one, text)) != (place in plain_cuts(GROUND, other, text))
                                for text, place in outside])
        self.assertIn(True, told)

    def test_other_things_are_none(self):
        for value in ANY_OBJECTS + [["aaba", 2], ("aaba",), ("aaba", 2, 2), ("aaba", "2"), ("aaba", None), ("aabd", 2), ("AABA", 2),
                                    (list("aaba"), 2), (2, "aaba"), ("ba", True), ("aaba", [2]), ("aaba", 10 ** 29), {"aaba": 2}]:
            self.assertIs(is_parting_text(PAIRS, PLAIN, OTHER, value), False, value)
        self.assertIs(is_parting_text(PAIRS, PLAIN, OTHER, ("aaba", 2)), True)
        self.assertIs(is_parting_text(PAIRS, PLAIN, OTHER, ("aba", 1)), True)
        self.assertIs(is_parting_text(PAIRS, PLAIN, OTHER, ("aba", True)), False)


def ground_order(ground):
    return some_orders(ground, 1)[0]


class Idle(unittest.TestCase):
    def test_idle_windows_are_cut_in_no_text(self):
        texts = texts_up_to("ab", 12)
        for order in (ORDER, shuffled(ORDER, 4), shuffled(ORDER, 6)):
            seen = {plain for text in texts for plain in self.windows_of_cuts(GROUND, order, text)}
            self.assertEqual(idle_windows(GROUND, order), [window for window in ORDER if window not in seen])

    def windows_of_cuts(self, ground, order, text):
        row = ground.signs()[0] * ground.width() + text + ground.signs()[0] * ground.width()
        half = ground.gap() - 1
        for place in cuts(ground, order, text):
            yield row[place + ground.width() - half:place + ground.width() + half]

    def test_of_wider_grounds(self):
        for ground in (Ground("abc", 3), Ground("ab", 4)):
            for order in some_orders(ground, 3):
                cut = {word[:ground.width()] for word, numbers in views(ground, order) if ground.gap() - 1 in numbers}
                idle = idle_windows(ground, order)
                self.assertEqual(idle, sorted(set(order) - cut))
                dice = random.Random(1)
                for _ in range(20):
                    text = "".join(dice.choices(ground.signs(), k=60))
                    self.assertEqual([window for window in self.windows_of_cuts(ground, order, text) if window in idle], [])

    def test_none_is_idle_at_gap_2(self):
        for ground in (TWO, PAIRS, Ground("abcde", 2)):
            for order in some_orders(ground, 4):
                self.assertEqual(idle_windows(ground, order), [])
                self.assertEqual(least_list(ground, order), order)

    def test_cuts_by_list(self):
        for ground, most in ((TWO, 6), (PAIRS, 4), (GROUND, 8)):
            order = shuffled(ground_order(ground), 2)
            for many in range(len(order) + 1):
                for row in (order[:many], shuffled(order, many)[:many]):
                    for text in texts_up_to(ground.signs(), most)[::7]:
                        self.assertEqual(cuts_by_list(ground, row, text), plain_cuts_by_list(ground, row, text))
        self.assertEqual(cuts_by_list(PAIRS, [], "abcabc"), [])
        self.assertEqual(cuts_by_list(PAIRS, ["bc"], "abcabc"), [2, 5])

    def test_least_list(self):
        for ground, texts in ((GROUND, texts_up_to("ab", 10)), (Ground("ab", 4), ["ab" * 20, "aabbabbb" * 5, "abbaaab" * 6])):
            for order in some_orders(ground, 4):
                row = least_list(ground, order)
                idle = idle_windows(ground, order)
                self.assertEqual(row, [window for window in order if window not in idle])
                for text in texts:
                    self.assertEqual(cuts_by_list(ground, row, text), cuts(ground, order, text))

    def test_without_some_windows_exactly_if_all_of_these_are_idle(self):
        texts = texts_up_to("ab", 11)
        for order in (ORDER, shuffled(ORDER, 4)):
            right = [cuts(GROUND, order, text) for text in texts]
            idle = idle_windows(GROUND, order)
            rows = [[window] for window in order] + [idle[:many] for many in range(len(idle) + 1)] + [["aabb", *idle]]
            for left_out in rows:
                row = [window for window in order if window not in left_out]
                found = [cuts_by_list(GROUND, row, text) for text in texts]
                self.assertIs(found == right, all(window in idle for window in left_out), left_out)

    def test_wrong_lists(self):
        for row in NO_LISTS:
            with self.assertRaises(errors.InvalidOrder) as told:
                cuts_by_list(GROUND, row, "aabb")
            self.assertIs(told.exception.value, row)
        with self.assertRaises(errors.InvalidOrder):
            cuts_by_list(GROUND, ["aabb", "aaaa"], None)


if __name__ == "__main__":
    unittest.main()
