"""Points [83] to [87]: two stores."""

import itertools
import random
import unittest

from calls import EMPTY, MINE, NO_NAMES, NO_NEW_NAMES, NO_PARCELS, NO_SENT, NO_STORES, PARCEL, STORE, YOURS
from owncuts import errors
from owncuts.meeting import (
    are_bars, bars, catch_up, caught_up, fewest_items, is_parcel, is_parcel_for, lacking, parcel_for, same_texts, told_by,
    unpacked)
from owncuts.pieces import pieces
from owncuts.store import Store, drop, names, new_pieces, put, store_of, text_in, versions
from support import ANY_OBJECTS, GROUND, ORDER, PAIRS, PLAIN, TWO

OTHER_KINDS = [Store(PAIRS, PLAIN[::-1]), Store(TWO, ["ab", "ba"]), put(Store(PAIRS, PLAIN[1:] + PLAIN[:1]), "log", "abcabba")]


def row_of(store, name, number):
    return pieces(store.ground(), store.order(), text_in(store, name, number))


def rows_of(store):
    return {(name, number): row_of(store, name, number) for name in names(store) for number in versions(store, name)}


def stands(row, part):
    return any(row[at:at + len(part)] == part for at in range(len(row) - len(part) + 1))


def plain_fewest(row, rows):
    """The fewest items, by the fewest for each beginning of the list."""
    least = [0]
    for behind in range(1, len(row) + 1):
        least.append(min(least[first] + 1 for first in range(behind)
                         if behind - first == 1 or any(stands(other, row[first:behind]) for other in rows.values())))
    return least[-1]


def plain_bars(row, rows):
    """All longest lists of bars."""
    pairs = [(first, last) for first, last in itertools.combinations(range(len(row)), 2)
             if not any(stands(other, row[first:last + 1]) for other in rows.values())]
    for many in range(len(row), -1, -1):
        found = [list(told) for told in itertools.combinations(pairs, many)
                 if all(one[1] <= other[0] for one, other in zip(told, told[1:]))]
        if found:
            return found


def some_store(ground, order, seed, many=3, long=14):
    """A store whose versions share many stretches."""
    dice = random.Random(seed)
    parts = ["".join(dice.choices(ground.signs(), k=dice.randrange(2, 5))) for _ in range(4)]
    store = Store(ground, order)
    for _ in range(many):
        text = ""
        while len(text) < long:
            text += dice.choice(parts)
        store = put(store, dice.choice(["a", "b"]), text[:dice.randrange(long + 1)])
    return store


def some_pairs(long=14):
    for seed in range(30):
        ground, order = ((PAIRS, PLAIN), (TWO, ["ab", "ba"]), (GROUND, ORDER))[seed % 3]
        dice = random.Random(seed)
        one = some_store(ground, order, seed // 2, 3, long)
        far = dice.random() < 0.5
        other = some_store(ground, order, seed // 3 + 50, 3, long) if far else some_store(ground, order, seed // 2, 2, long)
        yield one, other


class Parcels(unittest.TestCase):
    def test_lacking(self):
        for one, other in some_pairs():
            for name, number in rows_of(one):
                right = sorted(set(row_of(one, name, number)) - set(other.kept()))
                self.assertEqual(lacking(one, other, name, number), right)
                self.assertEqual(right, new_pieces(other, text_in(one, name, number)))
        self.assertEqual(lacking(YOURS, MINE, "log", 0), ["bb"])
        self.assertEqual(lacking(YOURS, YOURS, "log", 0), [])

    def test_told_by_and_unpacked(self):
        self.assertEqual(told_by(MINE, PARCEL), ["a", "bca", "bb", "a"])
        late = unpacked(MINE, "log", PARCEL)
        self.assertEqual(late, YOURS)
        # What it tells need not be the pieces of any text; what is kept are its pieces and those of the text.
        bogus = (["abc", "cc"], [("piece", 0), ("piece", 2), ("copy", "notes", 0, 3, 3), ("piece", 1), ("piece", 6)])
        self.assertEqual(told_by(MINE, bogus), ["a", "abc", "aa", "cb", "a", "aa", "cc"])
        late = unpacked(MINE, "notes", bogus)
        self.assertEqual(late.history(), {"notes": ["abcabcaacba", "aabcaacbaaacc"]})
        self.assertEqual(late.kept(), sorted({"abc", "cc", *MINE.kept(), *pieces(PAIRS, PLAIN, "aabcaacbaaacc")}))
        self.assertEqual(MINE.history(), {"notes": ["abcabcaacba"]})
        self.assertEqual(unpacked(EMPTY, "x", ([], [])).history(), {"x": [""]})
        self.assertEqual(unpacked(EMPTY, "x", (["ab"], [])), store_of(PAIRS, PLAIN, {"x": [""]}, ["ab"]))
        self.assertEqual(told_by(EMPTY, (["abbbba", "c"], [("piece", 1), ("piece", 0), ("piece", 1)])), ["c", "abbbba", "c"])

    def test_what_was_dropped_cannot_be_copied(self):
        store = drop(STORE, "notes", 0)
        self.assertIs(is_parcel(STORE, ([], [("copy", "notes", 0, 0, 1)])), True)
        self.assertIs(is_parcel(store, ([], [("copy", "notes", 0, 0, 1)])), False)
        self.assertIs(is_parcel(store, ([], [("copy", "notes", 1, 0, 7)])), True)
        self.assertIs(is_parcel(store, ([], [("copy", "notes", 1, 0, 8)])), False)
        self.assertIs(is_parcel(put(EMPTY, "a", ""), ([], [("copy", "a", 0, 0, 0)])), False)
        self.assertIs(is_parcel(put(EMPTY, "a", ""), ([], [("copy", "a", 0, 0, 1)])), False)

    def test_is_parcel(self):
        for value in ([], []), (["bb"], []), (["bb", "cc"], [("piece", 0)] * 40), PARCEL, (["abbbba"], [("piece", 5)]):
            self.assertIs(is_parcel(MINE, value), True, value)
        for value in ANY_OBJECTS + NO_PARCELS:
            self.assertIs(is_parcel(MINE, value), False, value)
        for position in range(-1, 8):
            self.assertIs(is_parcel(MINE, (["bb"], [("piece", position)])), 0 <= position < 6)
        for first, many in itertools.product(range(-1, 8), repeat=2):
            right = first >= 0 and many >= 1 and first + many <= 6
            self.assertIs(is_parcel(MINE, ([], [("copy", "notes", 0, first, many)])), right)

    def test_wrong_arguments(self):
        for parcel in NO_PARCELS:
            for call in (lambda: told_by(MINE, parcel), lambda: unpacked(MINE, "log", parcel)):
                with self.assertRaises(errors.InvalidParcel) as told:
                    call()
                self.assertIs(told.exception.value, parcel)
        for name in NO_NEW_NAMES:
            with self.assertRaises(errors.InvalidName) as told:
                unpacked(MINE, name, None)
            self.assertIs(told.exception.value, name)


class ForAVersion(unittest.TestCase):
    def test_fewest_items(self):
        many = 0
        for one, other in [*some_pairs(), *some_pairs(40), *some_pairs(70)]:
            rows = rows_of(other)
            for (name, number), row in rows_of(one).items():
                right = plain_fewest(row, rows)
                many += 1 < right < len(row)
                self.assertEqual(fewest_items(one, other, name, number), right)
                parcel = parcel_for(one, other, name, number)
                self.assertTrue(is_parcel(other, parcel))
                self.assertEqual(len(parcel[1]), right)
                self.assertEqual(told_by(other, parcel), row)
                self.assertEqual(parcel[0], lacking(one, other, name, number))
                self.assertIs(is_parcel_for(one, other, name, number, parcel), True)
                late = unpacked(other, name, parcel)
                self.assertEqual(text_in(late, name, versions(late, name)[-1]), text_in(one, name, number))
        self.assertGreater(many, 10)

    def test_bars(self):
        many = 0
        for one, other in some_pairs():
            rows = rows_of(other)
            for (name, number), row in rows_of(one).items():
                row = row[:9]
                if len(row_of(one, name, number)) > 9:
                    continue
                right = plain_bars(row, rows)
                found = bars(one, other, name, number)
                self.assertIn(found, right)
                many += len(found) > 1
                self.assertEqual(fewest_items(one, other, name, number), len(found) + 1 if row else 0)
                for told in right[:50]:
                    self.assertIs(are_bars(one, other, name, number, told), True)
                    if told:
                        self.assertIs(are_bars(one, other, name, number, told[:-1]), False)
                        self.assertIs(are_bars(one, other, name, number, told + told[-1:]), False)
                        self.assertIs(are_bars(one, other, name, number, [list(pair) for pair in told]), False)
        self.assertGreater(many, 3)

    def test_all_lists_are_judged(self):
        yes = 0
        for one, other in some_pairs():
            for (name, number), row in rows_of(one).items():
                right = plain_bars(row, rows_of(other)) if len(row) <= 5 else []
                pairs = list(itertools.product(range(-1, len(row) + 1), repeat=2))
                for many in range(3 if right and len(right[0]) < 3 else 0):
                    for value in itertools.product(pairs, repeat=many):
                        self.assertIs(are_bars(one, other, name, number, list(value)), list(value) in right)
                yes += len(right) > 1
        self.assertGreater(yes, 1)

    def test_what_stands_anywhere_in_a_version_is_no_bar(self):
        one = put(EMPTY, "x", "bcbacccabaa")
        other = put(EMPTY, "y", "bababcbacbc")
        row, there = row_of(one, "x", 0), row_of(other, "y", 0)
        self.assertEqual((row, there), (["bc", "ba", "ccca", "baa"], ["ba", "ba", "bc", "ba", "cb", "c"]))
        self.assertIs(are_bars(one, other, "x", 0, [(0, 2), (2, 3)]), True)
        self.assertIs(are_bars(one, other, "x", 0, [(0, 1), (2, 3)]), False)
        for value in itertools.product(itertools.combinations(range(len(row)), 2), repeat=len(bars(one, other, "x", 0))):
            right = list(value) in plain_bars(row, {0: there})
            self.assertIs(are_bars(one, other, "x", 0, list(value)), right)

    def test_all_parcels_of_few_items_are_judged(self):
        one = put(Store(PAIRS, PLAIN), "x", "abcabba")
        other = store_of(PAIRS, PLAIN, {"a": ["abcab", None, ""], "b": ["bbabca"]}, ["cc"])
        row = row_of(one, "x", 0)
        words = lacking(one, other, "x", 0)
        kept = sorted(other.kept() + words)
        items = [("piece", position) for position in range(len(kept))]
        for (name, number), there in rows_of(other).items():
            items += [("copy", name, number, first, many) for first in range(len(there))
                      for many in range(1, len(there) - first + 1)]
        least = fewest_items(one, other, "x", 0)
        yes = 0
        for many in range(least + 1):
            for value in itertools.product(items, repeat=many):
                told = told_by(other, (words, list(value)))
                self.assertIs(is_parcel_for(one, other, "x", 0, (words, list(value))), told == row)
                yes += told == row
                self.assertFalse(told == row and many < least)
        self.assertGreater(yes, 1)

    def test_with_other_pieces_or_more_items_it_is_none(self):
        value = parcel_for(YOURS, MINE, "log", 0)
        self.assertIs(is_parcel_for(YOURS, MINE, "log", 0, value), True)
        words, items = value
        row = row_of(YOURS, "log", 0)
        kept = sorted(MINE.kept() + words)
        single = (words, [("piece", kept.index(word)) for word in row])
        self.assertEqual(told_by(MINE, single), row)
        more = sorted(MINE.kept() + ["bb", "cc"])
        for bent in (single, (["bb", "cc"], [(item if item[0] == "copy" else ("piece", more.index(kept[item[1]]))) for item in items]),
                     (words, items[::-1]), (words, items[1:]), (words, items + items[-1:]), ([], items), (words, tuple(items)),
                     (tuple(words), items), [words, items], (items, words)):
            self.assertIs(is_parcel_for(YOURS, MINE, "log", 0, bent), False, bent)
        for bent in ANY_OBJECTS + NO_PARCELS:
            self.assertIs(is_parcel_for(YOURS, MINE, "log", 0, bent), False, bent)

    def test_the_empty_text(self):
        one = put(EMPTY, "a", "")
        for other in (EMPTY, MINE):
            self.assertEqual((parcel_for(one, other, "a", 0), fewest_items(one, other, "a", 0), bars(one, other, "a", 0)),
                             (([], []), 0, []))
            self.assertIs(is_parcel_for(one, other, "a", 0, ([], [])), True)
            self.assertIs(are_bars(one, other, "a", 0, []), True)

    def test_other_things_are_no_bars(self):
        self.assertIs(are_bars(YOURS, MINE, "log", 0, [(1, 2), (2, 3)]), True)
        for value in [value for value in ANY_OBJECTS if value != []] + [
                [(1, 2)], [(1, 2), (1, 2)], [(2, 3), (1, 2)], [(1, 2), (2, 4)], [(0, 1), (2, 3)], [[1, 2], [2, 3]], ((1, 2), (2, 3)),
                [(True, 2), (2, 3)], [(1, 2), (2, 3, 4)], [(1, 2), None], [(1, 2), (2, "3")], [(2, 1), (2, 3)], [(1, 1), (2, 3)],
                [(-1, 2), (2, 3)], [(1, 2), (2, 10 ** 29)], {(1, 2): 1, (2, 3): 2}, [(1, 3), (2, 3)], []]:
            self.assertIs(are_bars(YOURS, MINE, "log", 0, value), False, value)
        for value in ([(1, 2), (2, 3)], [(0, 2), (2, 3)]):
            self.assertIs(are_bars(YOURS, MINE, "log", 0, value), True)


class Meeting(unittest.TestCase):
    def test_catch_up(self):
        for one, other in some_pairs():
            sent = catch_up(one, other)
            now = other
            left = list(sent)
            for name in names(one):
                for number in versions(one, name):
                    text = text_in(one, name, number)
                    had = [text_in(now, name, late) for late in versions(now, name)] if name in names(now) else []
                    if text not in had:
                        told, parcel = left.pop(0)
                        self.assertEqual(told, name)
                        self.assertTrue(is_parcel(now, parcel))
                        self.assertEqual("".join(told_by(now, parcel)), text)
                        self.assertLessEqual(set(parcel[0]), set(lacking(one, now, name, number)))
                        now = unpacked(now, name, parcel)
            self.assertEqual(left, [])
            self.assertEqual(caught_up(other, sent), now)
            self.assertEqual(catch_up(one, now), [])
            back = caught_up(one, catch_up(now, one))
            self.assertIs(same_texts(back, now), True)
            self.assertIs(same_texts(now, back), True)

    def test_versions_under_one_name_with_one_text(self):
        one = put(put(put(EMPTY, "a", "abcab"), "a", "abcab"), "b", "abcab")
        self.assertEqual([name for name, _ in catch_up(one, EMPTY)], ["a", "b"])
        self.assertEqual(catch_up(one, put(put(EMPTY, "b", "abcab"), "a", "abcab")), [])
        # What was dropped there is sent again, what was dropped here is not sent.
        self.assertEqual([name for name, _ in catch_up(put(EMPTY, "a", "ab"), drop(put(EMPTY, "a", "ab"), "a", 0))], ["a"])
        self.assertEqual(catch_up(drop(put(EMPTY, "a", "ab"), "a", 0), EMPTY), [])
        self.assertEqual(catch_up(EMPTY, one), [])

    def test_caught_up(self):
        self.assertEqual(caught_up(MINE, []), MINE)
        # Each parcel is one for the store as it is by then: the second one copies what the first one brought.
        sent = [("log", PARCEL), ("new", ([], [("copy", "log", 0, 1, 2), ("piece", 2)])), ("log", (["cc"], [("piece", 5)]))]
        kept = unpacked(unpacked(MINE, "log", PARCEL), "new", sent[1][1]).kept()
        late = caught_up(MINE, sent)
        self.assertEqual(late.history(), {
            "log": ["abcabba", sorted([*kept, "cc"])[5]], "new": ["bcabbbb"], "notes": ["abcabcaacba"]})
        self.assertIn("cc", late.kept())
        with self.assertRaises(errors.InvalidParcel) as told:
            caught_up(MINE, sent[1:])
        self.assertEqual(told.exception.value, sent[1:])

    def test_wrong_lists(self):
        for sent in NO_SENT:
            with self.assertRaises(errors.InvalidParcel) as told:
                caught_up(MINE, sent)
            self.assertIs(told.exception.value, sent)

    def test_same_texts(self):
        def store(history):
            return store_of(PAIRS, PLAIN, history, [])

        alike = [
            ({}, {}), ({}, {"a": [None]}), ({"a": ["ab", "b"]}, {"a": ["b", None, "ab", "b"]}), ({"a": [""]}, {"a": ["", ""]}),
            ({"a": ["ab"], "b": [None]}, {"a": ["ab"], "c": [None, None]})]
        unlike = [
            ({}, {"a": [""]}), ({"a": ["ab"]}, {"a": ["ab", "b"]}), ({"a": ["ab"]}, {"b": ["ab"]}), ({"a": ["ab"]}, {"a": [None]}),
            ({"a": ["ab"], "b": ["c"]}, {"a": ["c"], "b": ["ab"]})]
        for rows, right in ((alike, True), (unlike, False)):
            for one, other in rows:
                self.assertIs(same_texts(store(one), store(other)), right, (one, other))
                self.assertIs(same_texts(store(other), store(one)), right, (one, other))
        # What is kept means nothing.
        self.assertIs(same_texts(store_of(PAIRS, PLAIN, {}, ["cc"]), store({})), True)


class Kinds(unittest.TestCase):
    def calls(self):
        return [lacking, parcel_for, fewest_items, bars]

    def test_of_another_ground_or_order_it_is_refused_behind_all_else(self):
        for other in OTHER_KINDS:
            for call in self.calls():
                for name, number, kind, value in (("log", 0, errors.Refused, other), ("no", 0, errors.InvalidName, "no"),
                                                  ("log", 1, errors.InvalidNumber, 1), (None, None, errors.InvalidName, None)):
                    with self.assertRaises(kind) as told:
                        call(YOURS, other, name, number)
                    self.assertIs(told.exception.value, value)
            for call in (catch_up, same_texts):
                with self.assertRaises(errors.Refused) as told:
                    call(YOURS, other)
                self.assertIs(told.exception.value, other)
                with self.assertRaises(errors.InvalidStore):
                    call(None, other)

    def test_judges_say_no_there(self):
        value = parcel_for(YOURS, MINE, "log", 0)
        for other in OTHER_KINDS:
            self.assertIs(is_parcel_for(YOURS, other, "log", 0, value), False)
            self.assertIs(is_parcel_for(put(EMPTY, "a", ""), other, "a", 0, ([], [])), False)
            self.assertIs(are_bars(YOURS, other, "log", 0, [(1, 2), (2, 3)]), False)
            self.assertIs(are_bars(put(EMPTY, "a", ""), other, "a", 0, []), False)
            for judge in (is_parcel_for, are_bars):
                with self.assertRaises(errors.InvalidName):
                    judge(YOURS, other, "no", None, value)
                with self.assertRaises(errors.InvalidNumber):
                    judge(YOURS, other, "log", 1, value)

    def test_stores_names_and_numbers(self):
        for call in self.calls():
            for value in NO_STORES:
                with self.assertRaises(errors.InvalidStore) as told:
                    call(value, MINE, "log", 0)
                self.assertIs(told.exception.value, value)
                with self.assertRaises(errors.InvalidStore) as told:
                    call(YOURS, value, None, None)
                self.assertIs(told.exception.value, value)
            for name in NO_NAMES:
                if name != "log":
                    with self.assertRaises(errors.InvalidName) as told:
                        call(YOURS, MINE, name, 0)
                    self.assertIs(told.exception.value, name)
            with self.assertRaises(errors.InvalidNumber):
                call(drop(YOURS, "log", 0), MINE, "log", 0)


if __name__ == "__main__":
    unittest.main()
