"""Points [62] to [70], and what is told behind [71]: edits, spans, and the most that any edit can change."""

import itertools
import random
import unittest

from calls import NO_EDITS, NO_EDITS_OF_AB
from owncuts import errors
from owncuts.cuts import cuts
from owncuts.edits import (
    alike_pieces, changed_cuts, edit_back, edit_between, edited, farthest, farthest_edit, is_farthest_edit, is_worst_edit,
    least_look, least_rule, most_new, new_spans, spans, worst_edit)
from owncuts.grounds import Ground
from owncuts.orders import mirrored_order
from owncuts.pieces import pieces
from owncuts.rules import is_rule, is_whole, marks
from owncuts.views import fates, fates_begun, heights, next_views, tolls, views
from support import ANY_OBJECTS, GROUND, ORDER, PAIRS, PLAIN, TWO, plain_cuts, some_orders, texts_up_to

AB = ["ab", "ba"]
ODD = ["ab", "ca", "ba", "bc", "cb", "ac"]


def edits_of(text, signs, most):
    """All edits of a text that put at most so many signs."""
    for at in range(len(text) + 1):
        for out in range(len(text) - at + 1):
            for put in texts_up_to(signs, most):
                yield (at, out, put)


class Told:
    """What can be told of a ground and an order by looking at all texts up to a length."""

    def __init__(self, ground, order, most):
        self.ground, self.order, self.most = ground, order, most
        self.cuts = {text: plain_cuts(ground, order, text) for text in texts_up_to(ground.signs(), most)}

    def changed(self, text, edit):
        at, out, put = edit
        one, other = self.cuts[text], self.cuts[text[:at] + put + text[at + out:]]
        ahead = [far for far in range(at + 1) if (at - far in one) != (at - far in other)]
        kept = len(text) - at - out
        return ahead, [far for far in range(kept + 1) if (at + out + far in one) != (at + len(put) + far in other)]

    def spans(self, text):
        inside = [place for place in self.cuts[text] if 0 <= place <= len(text)]
        return [(one, other) for one, other in itertools.combinations(inside, 2)
                if not [place for place in inside if one < place < other]]

    def new(self, text, edit):
        at, out, put = edit
        had, has = self.spans(text), self.spans(text[:at] + put + text[at + out:])
        behind = at + len(put)
        back = [(one - len(put) + out, other - len(put) + out) for one, other in has]
        return ([span for span in has if span[1] <= at and span not in had],
                [span for span, old in zip(has, back) if span[0] >= behind and old not in had])

    def side(self, turned):
        """The greatest numbers of one side: of texts alike up to a place, or, turned, of texts alike behind one."""
        seen = {}
        for text, found in self.cuts.items():
            long = len(text)
            if turned:
                text, found = text[::-1], [long - place for place in reversed(found)]
            for at in range(long + 1):
                seen.setdefault(text[:at], set()).add(tuple(place for place in found if 0 <= place <= at))
        far = new = 0
        for begin, rows in seen.items():
            for one, other in itertools.permutations(rows, 2):
                far = max(far, len(begin) - min(set(one) ^ set(other)))
                new = max(new, len(set(zip(other, other[1:])) - set(zip(one, one[1:]))))
        return far, new


SMALL = [Told(TWO, AB, 7), Told(TWO, AB[::-1], 7), Told(PAIRS, PLAIN, 6)]


class Edits(unittest.TestCase):
    def test_edited_and_back(self):
        for text in texts_up_to("ab", 4):
            for edit in edits_of(text, "az", 2):
                at, out, put = edit
                late = edited(text, edit)
                self.assertEqual(late, text[:at] + put + text[at + out:])
                back = edit_back(text, edit)
                self.assertEqual(edited(late, back), text)
                # What both keep is the same: as much ahead, and as much behind.
                self.assertEqual((back[0], len(late) - back[0] - back[1]), (at, len(text) - at - out))
                self.assertEqual(edit_back(late, back), edit)

    def test_edit_between(self):
        for text, late in itertools.product(texts_up_to("ab", 5), repeat=2):
            fitting = [(at, out, late[at:len(late) - (len(text) - at - out)])
                       for at in range(len(text) + 1) for out in range(len(text) - at + 1)
                       if len(late) >= len(text) - out and text[:at] == late[:at]
                       and late.endswith(text[at + out:])]
            right = max(fitting, key=lambda edit: (edit[0], -edit[1]))
            self.assertEqual(edit_between(text, late), right, (text, late))
            self.assertEqual(edited(text, right), late)
        self.assertEqual(edit_between("xyz", "xyz"), (3, 0, ""))
        self.assertEqual(edit_between("aaa", "aa"), (2, 1, ""))
        self.assertEqual(edit_between("", ""), (0, 0, ""))

    def test_wrong_edits(self):
        for edit in NO_EDITS:
            for call in (edited, edit_back):
                with self.assertRaises(errors.InvalidEdit) as told:
                    call("aabbb", edit)
                self.assertIs(told.exception.value, edit)
        for edit in NO_EDITS_OF_AB:
            for call in (changed_cuts, new_spans):
                with self.assertRaises(errors.InvalidEdit) as told:
                    call(GROUND, ORDER, "aabbb", edit)
                self.assertIs(told.exception.value, edit)
        self.assertEqual(edited("xyz", (1, 1, "m")), "xmz")
        with self.assertRaises(errors.InvalidText):
            changed_cuts(GROUND, ORDER, "abc", (0, 0, ""))


class Changes(unittest.TestCase):
    def test_changed_cuts_and_new_spans(self):
        for told in SMALL:
            texts = [text for text in told.cuts if len(text) <= told.most - 3]
            for text in texts:
                for edit in edits_of(text, told.ground.signs(), 2):
                    self.assertEqual(changed_cuts(told.ground, told.order, text, edit), told.changed(text, edit))
                    self.assertEqual(new_spans(told.ground, told.order, text, edit), told.new(text, edit))

    def test_spans(self):
        for told in SMALL:
            for text in told.cuts:
                self.assertEqual(spans(told.ground, told.order, text), told.spans(text))

    def test_of_longer_texts(self):
        dice = random.Random(5)
        for ground, order in ((GROUND, ORDER), (PAIRS, ODD), (Ground("ab", 4), some_orders(Ground("ab", 4), 2)[1])):
            for _ in range(60):
                text = "".join(dice.choices(ground.signs(), k=dice.randrange(40)))
                at = dice.randrange(len(text) + 1)
                out = dice.randrange(len(text) - at + 1)
                edit = (at, out, "".join(dice.choices(ground.signs(), k=dice.randrange(9))))
                told = Told(ground, order, 0)
                for row in (text, edited(text, edit)):
                    told.cuts[row] = plain_cuts(ground, order, row)
                self.assertEqual(changed_cuts(ground, order, text, edit), told.changed(text, edit))
                self.assertEqual(new_spans(ground, order, text, edit), told.new(text, edit))

    def test_places_at_the_ends_of_what_is_kept(self):
        # Place 4 is the end of the text, and that of what is kept ahead; nothing is kept behind it.
        self.assertEqual(changed_cuts(PAIRS, PLAIN, "bcba", (4, 0, "b")), ([0, 1, 2], []))
        self.assertEqual(cuts(TWO, AB, "b"), [0])
        self.assertEqual(changed_cuts(TWO, AB, "b", (0, 1, "")), ([0], []))
        self.assertEqual(changed_cuts(TWO, AB, "", (0, 0, "b")), ([0], []))
        self.assertEqual(changed_cuts(TWO, AB[::-1], "", (0, 0, "b")), ([], [0]))
        self.assertEqual(new_spans(TWO, AB, "", (0, 0, "bab")), ([], []))


class Farthest(unittest.TestCase):
    def orders(self):
        yield from [(PAIRS, order, 7) for order in some_orders(PAIRS, 5)]
        yield from [(TWO, order, 8) for order in (AB, AB[::-1])]
        yield from [(Ground("bxy", 2), ["by", "xb", "yx", "yb", "bx", "xy"], 7)]

    def test_of_all_texts_and_all_edits(self):
        for told in SMALL[:2]:
            numbers = [[0], [0], 0, 0]
            for text in [text for text in told.cuts if len(text) <= 5]:
                for edit in edits_of(text, "ab", 2):
                    if len(text) - edit[1] + len(edit[2]) <= told.most:
                        for at, row in enumerate(told.changed(text, edit)):
                            numbers[at].extend(row)
                        for at, row in enumerate(told.new(text, edit)):
                            numbers[2 + at] = max(numbers[2 + at], len(row))
            self.assertEqual(farthest(TWO, told.order), (max(numbers[0]), max(numbers[1])))
            self.assertEqual(most_new(TWO, told.order), (numbers[2], numbers[3]))

    def test_of_all_texts_that_begin_or_end_alike(self):
        for ground, order, most in self.orders():
            told = Told(ground, order, most)
            ahead, behind = told.side(False), told.side(True)
            self.assertEqual(farthest(ground, order), (ahead[0], behind[0]), order)
            self.assertEqual(most_new(ground, order), (ahead[1], behind[1]), order)

    def test_of_a_wider_ground_no_text_shows_more(self):
        for order in some_orders(GROUND, 2):
            told = Told(GROUND, order, 10)
            for turned in (False, True):
                far, new = told.side(turned)
                self.assertLessEqual(far, farthest(GROUND, order)[turned])
                self.assertLessEqual(new, most_new(GROUND, order)[turned])

    def test_by_twins_heights_and_tolls(self):
        for ground in (TWO, PAIRS, GROUND, Ground("abcd", 2), Ground("ab", 4)):
            long, last = 4 * ground.gap() - 5, 3 * ground.gap() - 4
            for order in some_orders(ground, 3):
                quick = ground.gap() == 2 or (ground == GROUND and order == ORDER)
                both, worst = [], []
                for row in (order, mirrored_order(ground, order)):
                    high, toll = heights(ground, row), tolls(ground, row)
                    both.append(max(long - number + high[twin] for twin in high for number in set(twin[1]) ^ set(twin[2])))
                    begun = set()
                    for view in views(ground, row) if quick else []:
                        behind = next_views(ground, row, view)
                        begun.update((one[0], one[1], other[1]) for one in behind for other in behind if one[0] == other[0])
                    worst.append(max([toll[twin] + (last in twin[2]) for twin in begun if twin in toll], default=0))
                self.assertEqual(farthest(ground, order), tuple(both))
                if quick:
                    self.assertEqual(most_new(ground, order), tuple(worst))

    def test_farther_places_are_not_open(self):
        dice = random.Random(3)
        for ground in (TWO, PAIRS, GROUND, Ground("ab", 4)):
            for order in some_orders(ground, 3):
                ahead, behind = farthest(ground, order)
                for long in (5, 20, 50):
                    word = "".join(dice.choices(ground.signs(), k=long))
                    for place, fate in enumerate(fates(ground, order, word)):
                        if long - place > ahead and place > behind:
                            self.assertNotEqual(fate, "open")

    def check_edit(self, ground, order, value, far, new):
        text, edit = value
        self.assertLessEqual(len(text), 1000)
        self.assertLessEqual(len(edited(text, edit)), 1000)
        told = Told(ground, order, 0)
        for row in (text, edited(text, edit)):
            told.cuts[row] = plain_cuts(ground, order, row)
        if far:
            ahead, behind = told.changed(text, edit)
            self.assertEqual((max(ahead), max(behind)), far)
        if new:
            ahead, behind = told.new(text, edit)
            self.assertEqual((len(ahead), len(behind)), new)

    def test_farthest_edit_and_worst_edit(self):
        for ground in (TWO, PAIRS, GROUND, Ground("abcde", 2), Ground("xyz", 2), Ground("ab", 4)):
            for order in some_orders(ground, 4 if ground != GROUND else 30):
                value = farthest_edit(ground, order)
                self.check_edit(ground, order, value, farthest(ground, order), None)
                self.assertIs(is_farthest_edit(ground, order, value), True)
                value = worst_edit(ground, order)
                self.check_edit(ground, order, value, None, most_new(ground, order))
                self.assertIs(is_worst_edit(ground, order, value), True)

    def test_they_are_judged(self):
        for told in (Told(TWO, AB, 9), Told(TWO, AB[::-1], 9)):
            far, new = farthest(TWO, told.order), most_new(TWO, told.order)
            yes = [0, 0]
            for text in ["bbaabaab", "aabbabba", "bb", "abbaab", *[text for text in told.cuts if len(text) == 8][::40]]:
                for edit in edits_of(text, "ab", 1):
                    ahead, behind = told.changed(text, edit)
                    right = far[0] in ahead and far[1] in behind
                    self.assertIs(is_farthest_edit(TWO, told.order, (text, edit)), right)
                    yes[0] += right
                    ahead, behind = told.new(text, edit)
                    right = (len(ahead), len(behind)) == new
                    self.assertIs(is_worst_edit(TWO, told.order, (text, edit)), right)
                    yes[1] += right
            self.assertGreater(min(yes), 0)
        self.assertIs(is_worst_edit(TWO, AB, ("bbaabaab", (3, 1, "b"))), True)
        self.assertIs(is_worst_edit(TWO, AB, ("bbaabaab", (3, 1, "a"))), False)

    def test_an_edit_far_from_the_other_side_or_with_less_is_none(self):
        for ground, order in ((PAIRS, ODD), (GROUND, ORDER)):
            for call, judge in ((farthest_edit, is_farthest_edit), (worst_edit, is_worst_edit)):
                text, (at, out, put) = call(ground, order)
                for bent in ((at, out, text[at:at + out]), (0, len(text), put), (len(text), 0, ""), (at, 0, "")):
                    self.assertIs(judge(ground, order, (text, bent)), False)

    def test_other_things_are_none(self):
        for call, judge in ((farthest_edit, is_farthest_edit), (worst_edit, is_worst_edit)):
            text, edit = call(TWO, AB)
            at, out, put = edit
            for value in ANY_OBJECTS + [[text, edit], (text,), (text, edit, edit), (text, list(edit)), (list(text), edit),
                                        (text + "c", edit), (text, (at, out, put + "c")), (text, (at, out)), (None, edit),
                                        (text, (at, len(text), put)), (text, (-1, out, put)), (edit, text), (text, None),
                                        (text, (True, out, put)), (text, (at, out, None)), {text: edit}, (text.upper(), edit)]:
                self.assertIs(judge(TWO, AB, value), False, value)


class Pieces(unittest.TestCase):
    def test_alike_pieces(self):
        for ground, order in ((TWO, AB), (PAIRS, PLAIN), (GROUND, ORDER)):
            texts = texts_up_to(ground.signs(), 4)
            # Of these one begins and ends as another one does, with many pieces alike in between.
            again = [part * many for part in ("ab", "aab", "abb", "aabb") for many in range(7)] + ["bab" + "ab" * 4 + "b"]
            for text, late in [*itertools.product(texts[::3], texts[::2]), *itertools.product(again, repeat=2)]:
                one, other = pieces(ground, order, text), pieces(ground, order, late)
                ahead = max(many for many in range(min(len(one), len(other)) + 1) if one[:many] == other[:many])
                rest, left = one[ahead:], other[ahead:]
                behind = max(many for many in range(min(len(rest), len(left)) + 1)
                             if rest[len(rest) - many:] == left[len(left) - many:])
                self.assertEqual(alike_pieces(ground, order, text, late), (ahead, behind))
        self.assertEqual(alike_pieces(TWO, AB, "", "ab"), (0, 0))
        self.assertEqual(alike_pieces(TWO, AB, "abab", "abab"), (len(pieces(TWO, AB, "abab")), 0))

    def test_few_pieces_of_an_edited_text_are_new(self):
        dice = random.Random(8)
        for ground in (PAIRS, GROUND, Ground("abcd", 2)):
            for order in some_orders(ground, 3):
                most = most_new(ground, order)
                for _ in range(30):
                    text = "".join(dice.choices(ground.signs(), k=60))
                    at = dice.randrange(50)
                    late = edited(text, (at, 5, "".join(dice.choices(ground.signs(), k=5))))
                    had, has = pieces(ground, order, text), pieces(ground, order, late)
                    ends = [sum(map(len, has[:many + 1])) for many in range(len(has))]
                    far = [piece for piece, end in zip(has, ends) if end <= at or end - len(piece) >= at + 5]
                    self.assertLessEqual(len([piece for piece in far if piece not in had]), sum(most))


class Look(unittest.TestCase):
    def test_least_look(self):
        for ground in (TWO, PAIRS, GROUND, Ground("ab", 4)):
            for order in some_orders(ground, 3):
                ahead, behind = farthest(ground, order)
                self.assertEqual(least_look(ground, order), (behind + 1, ahead + 1))

    def test_so_many_signs_tell_and_no_fewer(self):
        for ground, order in ((TWO, AB), (TWO, AB[::-1]), (PAIRS, PLAIN)):
            ahead, behind = least_look(ground, order)
            for at, rest in ((ahead, behind), (ahead - 1, behind), (ahead, behind - 1), (ahead - 1, behind + 1)):
                told = set()
                for signs in itertools.product(ground.signs(), repeat=at + rest):
                    told.add(fates(ground, order, "".join(signs))[at])
                self.assertIs("open" in told, (at, rest) != (ahead, behind))

    def test_least_rule(self):
        for ground, order, most in ((TWO, AB, 9), (TWO, AB[::-1], 9), (PAIRS, PLAIN, 6), (PAIRS, ["ba", "ab", "ac", "bc", "ca", "cb"], 6)):
            ahead, behind = least_look(ground, order)
            rule = least_rule(ground, order)
            self.assertTrue(is_rule(ground, rule))
            self.assertEqual((len(rule[0][0]), rule[1]), (ahead + behind, ahead))
            self.assertTrue(is_whole(ground, rule))
            for text in texts_up_to(ground.signs(), most):
                right = [place for place in cuts(ground, order, text) if 0 <= place <= len(text)]
                self.assertEqual(marks(ground, rule, text), right)

    def test_least_rule_of_4096_words(self):
        # Some orders of this ground look at 12 signs, or at fewer; of more no rule is asked.
        for order in some_orders(GROUND, 40):
            ahead, behind = least_look(GROUND, order)
            if ahead + behind <= 12:
                rule = least_rule(GROUND, order)
                for text in ["ab" * 20, "aabbab" * 6, "abbabaab" * 5, "a" * 9 + "b" * 9, "abaab" * 8]:
                    right = [place for place in cuts(GROUND, order, text) if 0 <= place <= len(text)]
                    self.assertEqual(marks(GROUND, rule, text), right)

    def test_who_reads_on_waits_for_so_many_signs_and_never_for_more(self):
        dice = random.Random(2)
        for ground in (TWO, PAIRS, GROUND):
            for order in some_orders(ground, 3):
                _, behind = least_look(ground, order)
                for _ in range(10):
                    text = "".join(dice.choices(ground.signs(), k=30))
                    told = fates_begun(ground, order, text)
                    self.assertNotIn("open", told[:len(text) - behind + 1])
                text, (at, _, _) = farthest_edit(ground, order)
                self.assertEqual(fates_begun(ground, order, text[:at])[at - behind + 1], "open")


if __name__ == "__main__":
    unittest.main()
