"""Points [54] to [61] and [71]: views, fates and twins."""

import itertools
import random
import unittest

from owncuts import errors
from owncuts.cuts import cuts
from owncuts.grounds import Ground
from owncuts.views import (
    fates, fates_begun, heights, is_text_of_view, is_text_with_cut, is_text_without_cut, is_texts_of_twin, is_view,
    next_views, text_of_view, text_with_cut, text_without_cut, texts_of_twin, tolls, twins, view_at, views)
from support import ANY_OBJECTS, NO_TWINS, NO_VIEWS, ORDER, PAIRS, PLAIN, TWO, plain_cuts, some_orders, texts_up_to

WIDE = Ground("ab", 3)
AB = ["ab", "ba"]


class Told:
    """What can be told of a ground and an order by looking at all texts up to a length."""

    def __init__(self, ground, order, most):
        self.ground = ground
        self.order = order
        self.most = most
        self.long = 4 * ground.gap() - 5
        self.numbers = range(ground.gap() - 1, 3 * ground.gap() - 3)
        self.cuts = {text: plain_cuts(ground, order, text) for text in texts_up_to(ground.signs(), most)}
        self.rows = {text: self.views_along(text) for text in self.cuts}
        self.views = sorted({view for row in self.rows.values() for view in row.values()})

    def views_along(self, text):
        """The views of a text, from where they are blank on to where they are so again."""
        blank = self.ground.signs()[0] * 2 * self.long
        row = blank + text + blank
        found = {}
        for at in range(-self.long - 1, len(text) + 2):
            seen = tuple(number for number in self.numbers if at + number in self.cuts[text])
            first = at + 2 * self.long
            found[at] = (row[first:first + self.long], seen)
        return found

    def next_views(self):
        found = {}
        for row in self.rows.values():
            for at in row:
                if at + 1 in row:
                    found.setdefault(row[at], set()).add(row[at + 1])
        return found

    def fates(self, word, begins):
        """The fates of the places of a word, of all texts or of those that begin with it."""
        seen = [set() for _ in range(len(word) + 1)]
        for text, found in self.cuts.items():
            for first in range(1 if begins else len(text) + 1):
                if text[first:first + len(word)] == word:
                    for place in range(len(word) + 1):
                        seen[place].add(first + place in found)
        return ["open" if len(told) == 2 else "cut" if True in told else "bare" for told in seen]

    def spans(self, text):
        inside = [place for place in self.cuts[text] if 0 <= place <= len(text)]
        return list(zip(inside, inside[1:]))

    def twins(self):
        """The dictionary from all twins to the greatest height and the greatest toll."""
        found = {}
        begun = {}
        for text in self.cuts:
            for behind in range(self.long, len(text) + 1):
                begun.setdefault(text[:behind], []).append(text)
        for begin, texts in begun.items():
            at = len(begin) - self.long
            for one, other in itertools.permutations(texts, 2):
                if self.rows[one][at] != self.rows[other][at]:
                    twin = (*self.rows[one][at], self.rows[other][at][1])
                    alike = len(begin)
                    while alike < min(len(one), len(other)) and one[alike] == other[alike]:
                        alike += 1
                    new = [span for span in self.spans(other)
                           if at + self.numbers[-1] < span[1] <= alike and span not in self.spans(one)]
                    high, toll = found.get(twin, (0, 0))
                    found[twin] = (max(high, alike - len(begin)), max(toll, len(new)))
        return found


# So long that every view, twin, height and toll is found; of the wider ground as many as there is time for.
TOLD = [Told(TWO, AB, 8), Told(TWO, AB[::-1], 8), Told(PAIRS, PLAIN, 6), Told(PAIRS, ["ba", "bc", "cb", "ab", "ca", "ac"], 7)]
WIDER = [Told(WIDE, ORDER, 11), Told(WIDE, some_orders(WIDE, 2)[1], 11)]


def every(ground):
    return [order for order in some_orders(ground, 4)]


class Views(unittest.TestCase):
    def test_all_views(self):
        for told in TOLD:
            found = views(told.ground, told.order)
            self.assertEqual(found, told.views)
            self.assertEqual(found, sorted(found))

    def test_of_a_wider_ground(self):
        for told in WIDER:
            found = views(told.ground, told.order)
            self.assertLessEqual(set(told.views), set(found))
            for view in found:
                text, at = text_of_view(told.ground, told.order, view)
                self.assertEqual(view_at(told.ground, told.order, text, at), view)
                self.assertEqual(text[at:at + told.long], view[0])

    def test_is_view(self):
        for told in TOLD[::2]:
            for word in texts_up_to(told.ground.signs(), told.long + 1):
                for many in range(3):
                    for numbers in itertools.product(range(4), repeat=many):
                        right = (word, numbers) in told.views
                        self.assertIs(is_view(told.ground, told.order, (word, numbers)), right)

    def test_other_things_are_no_views(self):
        for value in ANY_OBJECTS + NO_VIEWS:
            self.assertIs(is_view(TWO, AB, value), False, value)

    def test_view_at(self):
        for told in TOLD + WIDER:
            for text in list(told.rows)[::37]:
                for at, view in told.rows[text].items():
                    self.assertEqual(view_at(told.ground, told.order, text, at), view)
        for at in (-(10 ** 29), 10 ** 29, -99):
            self.assertEqual(view_at(WIDE, ORDER, "bbab", at), ("aaaaaaa", ()))

    def test_text_of_view(self):
        for told in TOLD + WIDER[:1]:
            for view in told.views[::7]:
                value = text_of_view(told.ground, told.order, view)
                self.assertIs(is_text_of_view(told.ground, told.order, view, value), True)
                text, at = value
                for other in {view, *told.views[::19]}:
                    self.assertIs(is_text_of_view(told.ground, told.order, other, value), other == view)
                self.assertEqual(text[at:at + told.long], view[0])

    def test_is_text_of_view(self):
        told = TOLD[0]
        for view in told.views:
            for text in list(told.rows)[:99]:
                for at in range(-1, len(text) + 2):
                    right = 0 <= at <= len(text) - 3 and told.rows[text][at] == view
                    self.assertIs(is_text_of_view(TWO, AB, view, (text, at)), right)
        # All of the word lies within the text.
        self.assertEqual(view_at(TWO, AB, "ba", 0), ("baa", (1,)) if cuts(TWO, AB, "ba") == [1] else ("baa", ()))
        self.assertIs(is_text_of_view(TWO, AB, view_at(TWO, AB, "ba", 0), ("ba", 0)), False)
        for value in ANY_OBJECTS + [["bbaa", 0], ("bbaa",), ("bbaa", 0, 0), ("bbaa", False), ("bbaa", "0"), ("bbac", 0),
                                    (("b", "b", "a", "a"), 0), ("bbaa", None), ("bbaa", 10 ** 29), ("abbaa", 0)]:
            self.assertIs(is_text_of_view(TWO, AB, ("bba", (2,)), value), False, value)
        self.assertIs(is_text_of_view(TWO, AB, ("bba", (2,)), ("bbaa", 0)), True)

    def test_next_views(self):
        for told in TOLD:
            right = told.next_views()
            for view in told.views:
                self.assertEqual(next_views(told.ground, told.order, view), sorted(right[view]))
        for told in WIDER:
            for view, others in list(told.next_views().items())[::9]:
                found = next_views(told.ground, told.order, view)
                self.assertEqual(found, sorted(set(found)))
                self.assertLessEqual(others, set(found))

    def test_a_list_of_all_cuts_is_one_whose_views_follow_one_another(self):
        for told in TOLD[:1] + TOLD[2:3]:
            after = {view: next_views(told.ground, told.order, view) for view in told.views}
            for text in list(told.cuts)[:60]:
                for many in range(3):
                    for places in itertools.combinations(range(-1, len(text) + 2), many):
                        other = Told.__new__(Told)
                        other.ground, other.long, other.numbers = told.ground, told.long, told.numbers
                        other.cuts = {text: list(places)}
                        row = list(other.views_along(text).values())
                        right = all(view in after for view in row) and all(
                            late in after[view] for view, late in zip(row, row[1:]))
                        self.assertIs(right, list(places) == told.cuts[text], (text, places))


class Fates(unittest.TestCase):
    def test_of_short_words(self):
        for told in TOLD:
            for word in texts_up_to(told.ground.signs(), 3)[1:]:
                self.assertEqual(fates(told.ground, told.order, word), told.fates(word, False), word)

    def test_of_words_that_begin_a_text(self):
        for told in TOLD:
            for text in texts_up_to(told.ground.signs(), 3):
                self.assertEqual(fates_begun(told.ground, told.order, text), told.fates(text, True), text)

    def test_of_a_wider_ground(self):
        order = {"open": {True, False}, "cut": {True}, "bare": {False}}
        for told in WIDER:
            for word in texts_up_to("ab", 6)[1::5]:
                # Texts of more signs may show a place open, none may show one to be no more so.
                for found, seen in ((fates(WIDE, told.order, word), told.fates(word, False)),
                                    (fates_begun(WIDE, told.order, word), told.fates(word, True))):
                    for fate, short in zip(found, seen):
                        self.assertLessEqual(order[short], order[fate])

    def test_a_place_is_open_exactly_if_there_are_both_texts(self):
        for ground in (TWO, PAIRS, WIDE, Ground("xy", 3)):
            for order in every(ground):
                dice = random.Random(1)
                for long in (1, 2, 3, 5, 9, 14):
                    word = "".join(dice.choices(ground.signs(), k=long))
                    for place, fate in enumerate(fates(ground, order, word)):
                        one = text_with_cut(ground, order, word, place)
                        other = text_without_cut(ground, order, word, place)
                        self.assertEqual((one is not None, other is not None), (fate != "bare", fate != "cut"))
                        for found, is_cut in ((one, True), (other, False)):
                            if found is not None:
                                text, at = found
                                self.assertEqual(text[at:at + long], word)
                                self.assertIs(at + place in plain_cuts(ground, order, text), is_cut)
                            self.assertIs(is_text_with_cut(ground, order, word, place, found), is_cut and found is not None)
                            self.assertIs(
                                is_text_without_cut(ground, order, word, place, found), not is_cut and found is not None)

    def test_fates_begun_are_those_behind_the_endless_row(self):
        for ground in (TWO, PAIRS, WIDE):
            for order in every(ground):
                for text in texts_up_to(ground.signs(), 4)[::7]:
                    far = ground.signs()[0] * 40
                    self.assertEqual(fates_begun(ground, order, text), fates(ground, order, far + text)[40:])

    def test_texts_are_judged(self):
        told = TOLD[0]
        for word in ("a", "b", "ab", "bba", "abba"):
            for text in list(told.cuts)[:80]:
                for at in range(-1, len(text) + 1):
                    for place in range(len(word) + 1):
                        stands = at >= 0 and text[at:at + len(word)] == word
                        is_cut = at + place in told.cuts[text]
                        self.assertIs(is_text_with_cut(TWO, AB, word, place, (text, at)), stands and is_cut)
                        self.assertIs(is_text_without_cut(TWO, AB, word, place, (text, at)), stands and not is_cut)
        for value in ANY_OBJECTS + [["abba", 0], ("abba",), ("abba", 0, 0), ("abba", False), ("abba", "0"), ("abbc", 0),
                                    ("abba", -4), ("abba", 10 ** 29), (("a", "b", "b", "a"), 0), "abba"]:
            for call in (is_text_with_cut, is_text_without_cut):
                self.assertIs(call(TWO, AB, "abba", 3, value), False, value)

    def test_places_of_a_word(self):
        for place in (5, -1, True, None, "1", 10 ** 29):
            for call in (text_with_cut, text_without_cut, lambda *told: is_text_with_cut(*told, None),
                         lambda *told: is_text_without_cut(*told, None)):
                with self.assertRaises(errors.InvalidPlace) as told:
                    call(TWO, AB, "abba", place)
                self.assertIs(told.exception.value, place)


class Twins(unittest.TestCase):
    def test_twins_heights_and_tolls(self):
        for told in TOLD:
            right = told.twins()
            self.assertEqual(twins(told.ground, told.order), sorted(right))
            self.assertEqual(list(heights(told.ground, told.order).items()),
                             [(twin, right[twin][0]) for twin in sorted(right)])
            self.assertEqual(list(tolls(told.ground, told.order).items()),
                             [(twin, right[twin][1]) for twin in sorted(right)])

    def test_of_a_wider_ground(self):
        for told in WIDER:
            high, toll = heights(WIDE, told.order), tolls(WIDE, told.order)
            self.assertEqual(list(high), list(toll))
            self.assertEqual(list(high), twins(WIDE, told.order))
            # Short texts show some of the twins, and of these not always the most.
            few = Told(WIDE, told.order, 10)
            for twin, (least, lowest) in few.twins().items():
                self.assertGreaterEqual(high[twin], least)
                self.assertGreaterEqual(toll[twin], lowest)

    def most_new(self, ground, order, twin, many):
        """The most new spans of a twin, and its height, of all texts that go on by so many signs behind its word."""
        text, _, at = texts_of_twin(ground, order, twin)
        behind = at + len(twin[0])
        # What stands far ahead makes an earlier cut, and changes nothing near the twin.
        begin = ground.signs()[-1] + ground.signs()[0] * 30 + text[:behind]
        at = len(begin) - len(twin[0])
        ones, others = [], []
        for signs in itertools.product(ground.signs(), repeat=many):
            row = begin + "".join(signs)
            found = [place for place in cuts(ground, order, row) if 0 <= place <= len(row)]
            spans = set(zip(found, found[1:]))
            numbers = tuple(place - at for place in found if ground.gap() - 1 <= place - at <= 3 * ground.gap() - 4)
            if numbers == twin[1]:
                ones.append((row, spans))
            if numbers == twin[2]:
                others.append((row, [span for span in spans if span[1] > at + 3 * ground.gap() - 4]))
        most = high = 0
        for (one, had), (other, spans) in itertools.product(ones, others):
            alike = next(k for k in range(len(begin), len(one)) if one[k] != other[k])
            high = max(high, alike - len(begin))
            most = max(most, len([span for span in spans if span[1] <= alike and span not in had]))
        return high, most

    def test_of_all_ways_on_from_a_twin(self):
        for told in WIDER:
            high, toll = heights(WIDE, told.order), tolls(WIDE, told.order)
            # Of those that part soon so few signs more show all.
            for twin in [twin for twin in high if high[twin] <= 4][::3]:
                self.assertEqual(self.most_new(WIDE, told.order, twin, 8), (high[twin], toll[twin]), twin)

    def test_no_way_leads_from_a_twin_back_to_like_views(self):
        for ground in (TWO, PAIRS, WIDE):
            for order in every(ground):
                high = heights(ground, order)
                after = {view: next_views(ground, order, view) for view in views(ground, order)[::1 if ground != WIDE else 3]}
                for word, first, second in high:
                    if (word, first) in after and (word, second) in after:
                        shared = set(after[word, first]) & set(after[word, second])
                        self.assertEqual(shared, set())
                        for one, other in itertools.product(after[word, first], after[word, second]):
                            if one[0] == other[0]:
                                self.assertLess(high[one[0], one[1], other[1]], high[word, first, second])

    def test_each_stands_beside_the_one_the_other_way_round(self):
        for ground in (TWO, PAIRS, WIDE, Ground("abc", 3)):
            order = every(ground)[1]
            high = heights(ground, order)
            for word, first, second in high:
                self.assertNotEqual(first, second)
                self.assertEqual(high[word, first, second], high[word, second, first])

    def is_right(self, ground, order, twin, value, high):
        text, late, at = value
        behind = at + 4 * ground.gap() - 5
        return (text[:behind + high] == late[:behind + high] and min(len(text), len(late)) >= behind + high
                and text[at:behind] == twin[0]
                and view_at(ground, order, text, at)[1] == twin[1] and view_at(ground, order, late, at)[1] == twin[2])

    def test_texts_of_twin(self):
        for ground in (TWO, PAIRS, WIDE):
            for order in every(ground):
                high = heights(ground, order)
                for twin in list(high)[::1 if ground != WIDE else 11]:
                    value = texts_of_twin(ground, order, twin)
                    self.assertTrue(self.is_right(ground, order, twin, value, high[twin]), (twin, value))
                    self.assertIs(is_texts_of_twin(ground, order, twin, value), True)
                    other = (twin[0], twin[2], twin[1])
                    self.assertIs(is_texts_of_twin(ground, order, other, value), False)
                    text, late, at = value
                    self.assertIs(is_texts_of_twin(ground, order, other, (late, text, at)), True)
                    behind = at + len(twin[0]) + high[twin]
                    self.assertFalse(text[:behind + 1] == late[:behind + 1] and min(len(text), len(late)) > behind)

    def test_texts_are_judged(self):
        told = TOLD[2]
        high = heights(PAIRS, PLAIN)
        texts = [text for text in told.cuts if 3 <= len(text) <= 5 and text.startswith(("bcb", "acb", "bba"))]
        for twin in [twin for twin in high if twin[0] in ("bcb", "bba", "cba")]:
            for text, late in itertools.product(texts[::3], texts[::2]):
                for at in (0, 1):
                    value = (text, late, at)
                    right = at + 3 <= min(len(text), len(late)) and self.is_right(PAIRS, PLAIN, twin, value, high[twin])
                    self.assertIs(is_texts_of_twin(PAIRS, PLAIN, twin, value), right, (twin, value))

    def test_other_things_are_none(self):
        for value in ANY_OBJECTS + [["bbab", "bbaa", 0], ("bbab", "bbaa"), ("bbab", "bbaa", 0, 0), ("bbab", "bbaa", False),
                                    ("bbab", "bbaa", "0"), ("bbab", "bbac", 0), ("bbab", ["b", "b", "a", "a"], 0), (None, "bbaa", 0),
                                    ("bbab", "bbaa", -4), ("bbab", "bbaa", 10 ** 29), ("abbab", "bbbaa", 1), ("bb", "bbaa", 0)]:
            self.assertIs(is_texts_of_twin(TWO, AB, ("bba", (), (2,)), value), False, value)
        self.assertIs(is_texts_of_twin(TWO, AB, ("bba", (), (2,)), ("bbab", "bbaa", 0)), True)

    def test_wrong_twins(self):
        for twin in NO_TWINS:
            for call in (texts_of_twin, lambda *told: is_texts_of_twin(*told, ("bbab", "bbaa", 0))):
                with self.assertRaises(errors.InvalidTwin) as told:
                    call(TWO, AB, twin)
                self.assertIs(told.exception.value, twin)


if __name__ == "__main__":
    unittest.main()
