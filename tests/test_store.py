"""Points [74] to [80]: a store."""

import random
import unittest

from calls import EMPTY, MINE, NO_HISTORIES, NO_MORE_WORDS, NO_NAMES, NO_NEW_NAMES, NO_NUMBERS, NO_STORES, STORE
from owncuts import errors
from owncuts.edits import edit_between, edited, most_new
from owncuts.grounds import Ground
from owncuts.pieces import is_long, is_short, pieces, size_of, told_of
from owncuts.store import (
    Store, called, drop, edits_of, is_history, names, new_pieces, put, recipe, sizes, store_of, swept, text_in, unused, uses,
    versions)
from support import ANY_OBJECTS, GROUND, ORDER, PAIRS, PLAIN, TWO, some_orders, texts_up_to


class Model:
    """A store, told plainly: its history, and a set of all words that it keeps."""

    def __init__(self, ground, order):
        self.ground, self.order, self.history, self.kept = ground, order, {}, set()

    def used(self):
        texts = [text for row in self.history.values() for text in row if text is not None]
        return {word for text in texts for word in pieces(self.ground, self.order, text)}

    def put(self, name, text):
        self.history.setdefault(name, []).append(text)
        self.kept |= set(pieces(self.ground, self.order, text))

    def check(self, case, store):
        ground, order = self.ground, self.order
        case.assertIs(type(store), Store)
        case.assertEqual((store.ground(), store.order()), (ground, order))
        case.assertEqual(list(store.history().items()), sorted(self.history.items()))
        case.assertEqual(store.kept(), sorted(self.kept))
        case.assertEqual(names(store), sorted(self.history))
        for name, row in self.history.items():
            there = [number for number, text in enumerate(row) if text is not None]
            case.assertEqual(versions(store, name), there)
            for number in there:
                case.assertEqual(text_in(store, name, number), row[number])
                told = pieces(ground, order, row[number])
                case.assertEqual(recipe(store, name, number), [store.kept().index(word) for word in told])
            case.assertEqual(edits_of(store, name),
                             [edit_between(row[one], row[other]) for one, other in zip(there, there[1:])])
        case.assertEqual(unused(store), sorted(self.kept - self.used()))
        signs = sum(len(text) for row in self.history.values() for text in row if text is not None)
        case.assertEqual(sizes(store), (signs, sum(size_of(ground, [told_of(ground, word)]) for word in self.kept)))
        for word in sorted(self.kept) + ["a", "b" * 7, "ab" * 5]:
            case.assertEqual(uses(store, word), sorted(
                (name, number) for name, row in self.history.items() for number, text in enumerate(row)
                if text is not None and word in pieces(ground, order, text)))


class Stores(unittest.TestCase):
    def test_an_empty_store(self):
        store = Store(PAIRS, PLAIN)
        self.assertEqual((store.ground(), store.order(), store.history(), store.kept()), (PAIRS, PLAIN, {}, []))
        self.assertEqual((names(store), unused(store), sizes(store)), ([], [], (0, 0)))
        self.assertEqual(swept(store), store)

    def test_whatever_is_done(self):
        for seed in range(12):
            dice = random.Random(seed)
            ground, order = ((PAIRS, PLAIN), (GROUND, ORDER), (TWO, ["ba", "ab"]))[seed % 3]
            model, store = Model(ground, order), Store(ground, order)
            for _ in range(25):
                before = store
                told = (store.history(), store.kept())
                name = dice.choice(["a", "b", "notes", "abcdefgh"])
                what = dice.randrange(9)
                there = versions(store, name) if name in names(store) else []
                if what < 5:
                    text = "".join(dice.choices(ground.signs(), k=dice.choice([0, 1, 3, 12, 30])))
                    store = put(store, name, text)
                    model.put(name, text)
                elif what < 7 and there:
                    number = dice.choice(there)
                    store = drop(store, name, number)
                    model.history[name][number] = None
                elif what == 7:
                    store = swept(store)
                    model.kept = model.used()
                elif name in names(store) and "other" not in names(store):
                    store = called(store, name, "other")
                    model.history["other"] = model.history.pop(name)
                model.check(self, store)
                self.assertEqual((before.history(), before.kept()), told)
                again = store_of(ground, order, store.history(), dice.sample(unused(store) * 2, 2 * len(unused(store))))
                self.assertEqual(again, store)

    def test_store_of(self):
        history = {"notes": ["abcabcaacba", None, ""], "b": [None], "abcdefgh": ["abab"]}
        more = ["cc", "abbbba", "a", "cc", "ab"]
        model = Model(PAIRS, PLAIN)
        for name, row in history.items():
            for text in row:
                model.put(name, text or "")
        model.history = history
        model.kept |= set(more)
        model.check(self, store_of(PAIRS, PLAIN, history, more))
        self.assertEqual(list(store_of(PAIRS, PLAIN, history, []).history()), ["abcdefgh", "b", "notes"])
        self.assertEqual(store_of(PAIRS, PLAIN, {}, []), Store(PAIRS, PLAIN))
        self.assertEqual(store_of(PAIRS, PLAIN, {}, ["b", "a", "b"]).kept(), ["a", "b"])
        self.assertEqual(unused(store_of(PAIRS, PLAIN, {"x": ["ab"]}, ["abbbba", "abcc"[:3]])), ["abbbba", "abc"])

    def test_words_that_may_be_kept_are_short_or_long(self):
        for ground, order in ((PAIRS, PLAIN), (GROUND, ORDER)):
            for word in texts_up_to(ground.signs(), 7)[1:]:
                if is_short(ground, word) or is_long(ground, word):
                    self.assertEqual(store_of(ground, order, {}, [word]).kept(), [word])
                else:
                    with self.assertRaises(errors.InvalidPieces):
                        store_of(ground, order, {}, [word])

    def test_what_was_dropped_is_not_there_and_its_pieces_are_kept(self):
        store = drop(STORE, "notes", 0)
        self.assertEqual(store.history(), {"notes": [None, "abcabcabcaacba"]})
        self.assertEqual(store.kept(), STORE.kept())
        for call in (text_in, drop, recipe):
            with self.assertRaises(errors.InvalidNumber) as told:
                call(store, "notes", 0)
            self.assertEqual(told.exception.value, 0)
        self.assertEqual(versions(store, "notes"), [1])
        self.assertEqual(versions(drop(store, "notes", 1), "notes"), [])
        self.assertEqual(names(drop(store, "notes", 1)), ["notes"])
        self.assertEqual(versions(put(drop(store, "notes", 1), "notes", "a"), "notes"), [2])

    def test_equality(self):
        one = put(EMPTY, "a", "abcab")
        self.assertEqual(one, put(Store(Ground("abc", 2), list(PLAIN)), "a", "abcab"))
        self.assertEqual(drop(put(one, "a", "b"), "a", 1) == drop(put(one, "a", "b"), "a", 1), True)
        others = [
            EMPTY, put(one, "a", "abcab"), put(EMPTY, "b", "abcab"), put(EMPTY, "a", "abca"), put(Store(PAIRS, PLAIN[::-1]), "a", "abcab"),
            store_of(PAIRS, PLAIN, {"a": ["abcab"]}, ["cc"]), store_of(PAIRS, PLAIN, {"a": ["abcab", None]}, []),
            drop(one, "a", 0), put(one, "b", ""), store_of(PAIRS, PLAIN, {"a": [None]}, [])]
        for other in others:
            self.assertIs(one == other, False)
            self.assertIs(one != other, True)
        self.assertIs(Store(TWO, ["ab", "ba"]) == Store(Ground("ac", 2), ["ac", "ca"]), False)
        self.assertIs(Store(TWO, ["ab", "ba"]) == Store(TWO, ["ba", "ab"]), False)
        self.assertIs(put(Store(TWO, ["ab", "ba"]), "a", "aa") == put(Store(TWO, ["ba", "ab"]), "a", "aa"), False)
        # A longer way to the same thing.
        self.assertEqual(called(put(EMPTY, "b", "abcab"), "b", "a"), one)
        self.assertEqual(swept(store_of(PAIRS, PLAIN, {"a": ["abcab"]}, ["cc"])), one)
        for value in ANY_OBJECTS + [one.history(), (PAIRS, PLAIN, one.history(), one.kept())]:
            self.assertIs(one == value, False)

    def test_what_is_passed_and_returned_may_be_changed(self):
        order, history, more = list(PLAIN), {"a": ["ab", None]}, ["cc"]
        store = store_of(PAIRS, order, history, more)
        order.reverse()
        history["a"].append("b")
        history["b"] = []
        more.clear()
        for _ in range(2):
            told = (store.order(), store.history(), store.kept())
            self.assertEqual(told, (PLAIN, {"a": ["ab", None]}, ["a", "b", "cc"]))
            told[0].clear()
            told[1]["a"].clear()
            told[1].clear()
            told[2].clear()
        empty = Store(PAIRS, order)
        order.clear()
        self.assertEqual(empty.order(), PLAIN[::-1])
        for call in (lambda: names(store), lambda: versions(store, "a"), lambda: unused(store), lambda: recipe(store, "a", 0),
                     lambda: uses(store, "a"), lambda: edits_of(store, "a"), lambda: new_pieces(store, "bbca")):
            right = list(call())
            call().append("changed")
            self.assertEqual(call(), right)

    def test_called(self):
        store = called(STORE, "notes", "old")
        self.assertEqual(store.history(), {"old": STORE.history()["notes"]})
        self.assertEqual(store.kept(), STORE.kept())
        for other in [*NO_NEW_NAMES, "notes"]:
            with self.assertRaises(errors.InvalidName) as told:
                called(STORE, "notes", other)
            self.assertIs(told.exception.value, other)
        two = put(STORE, "log", "")
        for name, other in (("notes", "log"), ("log", "log")):
            with self.assertRaises(errors.InvalidName) as told:
                called(two, name, other)
            self.assertEqual(told.exception.value, other)
        with self.assertRaises(errors.InvalidName) as told:
            called(two, "no", "")
        self.assertEqual(told.exception.value, "no")

    def test_new_pieces(self):
        for ground, order in ((PAIRS, PLAIN), (GROUND, ORDER)):
            store = put(Store(ground, order), "a", "abba" * 3)
            for text in texts_up_to(ground.signs(), 6)[::3]:
                right = sorted(set(pieces(ground, order, text)) - set(store.kept()))
                self.assertEqual(new_pieces(store, text), right)
        self.assertEqual(new_pieces(STORE, ""), [])

    def test_of_a_version_edited_few_pieces_are_new(self):
        dice = random.Random(4)
        for ground in (PAIRS, GROUND):
            for order in some_orders(ground, 3):
                most = sum(most_new(ground, order))
                for _ in range(20):
                    text = "".join(dice.choices(ground.signs(), k=60))
                    at = dice.randrange(50)
                    late = edited(text, (at, 6, "".join(dice.choices(ground.signs(), k=4))))
                    found = new_pieces(put(Store(ground, order), "a", text), late)
                    row = pieces(ground, order, late)
                    ends = [sum(map(len, row[:many + 1])) for many in range(len(row))]
                    far = [piece for piece, end in zip(row, ends) if end <= at or end - len(piece) >= at + 4]
                    self.assertLessEqual(len([piece for piece in set(far) if piece in found]), most)

    def test_sizes(self):
        # Long pieces are told by a number: however long, they take few signs.
        store = put(Store(PAIRS, PLAIN), "a", "a" + "b" * 90 + "a")
        self.assertEqual(sizes(store)[0], 92)
        self.assertLess(sizes(store)[1], 12)
        self.assertEqual(sizes(STORE), (25, 10))


class Histories(unittest.TestCase):
    def test_right_ones(self):
        for value in ({}, {"a": [None]}, {"a": [""]}, {"abcdefgh": ["ab", None, "abcabc"], "z": ["c"]}, {"b": [None, None]}):
            self.assertIs(is_history(PAIRS, value), True, value)
        self.assertIs(is_history(Ground("xy", 60), {"abc": ["xyx"]}), True)
        self.assertIs(is_history(Ground("xy", 60), {"abc": ["xyz"]}), False)

    def test_other_things(self):
        for value in ANY_OBJECTS + NO_HISTORIES:
            self.assertIs(is_history(PAIRS, value), value == {}, value)

    def test_wrong_arguments_of_store_of(self):
        for value in NO_HISTORIES:
            with self.assertRaises(errors.InvalidHistory) as told:
                store_of(PAIRS, PLAIN, value, None)
            self.assertIs(told.exception.value, value)
        for value in NO_MORE_WORDS:
            with self.assertRaises(errors.InvalidPieces) as told:
                store_of(PAIRS, PLAIN, {}, value)
            self.assertIs(told.exception.value, value)
        with self.assertRaises(errors.InvalidOrder):
            store_of(PAIRS, PLAIN[1:], None, None)
        with self.assertRaises(errors.InvalidGround):
            store_of(None, PLAIN[1:], None, None)


class Wrong(unittest.TestCase):
    def test_names_and_numbers(self):
        for name in NO_NAMES:
            for call in (lambda: versions(STORE, name), lambda: text_in(STORE, name, None), lambda: drop(STORE, name, None),
                         lambda: called(STORE, name, None), lambda: recipe(STORE, name, None), lambda: edits_of(STORE, name)):
                with self.assertRaises(errors.InvalidName) as told:
                    call()
                self.assertIs(told.exception.value, name)
        for number in NO_NUMBERS:
            for call in (text_in, drop, recipe):
                with self.assertRaises(errors.InvalidNumber) as told:
                    call(STORE, "notes", number)
                self.assertIs(told.exception.value, number)
        for name in ("new", "notes", "abcdefgh"):
            self.assertIn(name, names(put(STORE, name, "")))

    def test_stores(self):
        for value in NO_STORES:
            for call, more in ((names, []), (versions, ["a"]), (text_in, ["a", 0]), (put, ["a", "a"]), (drop, ["a", 0]), (swept, []),
                               (called, ["a", "b"]), (unused, []), (new_pieces, ["a"]), (uses, ["a"]), (recipe, ["a", 0]),
                               (sizes, []), (edits_of, ["a"])):
                with self.assertRaises(errors.InvalidStore) as told:
                    call(value, *more)
                self.assertIs(told.exception.value, value)

    def test_texts_of_the_stores_ground(self):
        for call in (lambda text: put(MINE, "a", text), lambda text: new_pieces(MINE, text)):
            for text in ("abd", "A", None, ["a"]):
                with self.assertRaises(errors.InvalidText) as told:
                    call(text)
                self.assertIs(told.exception.value, text)
        for word in ("", "abd", None):
            with self.assertRaises(errors.InvalidWord) as told:
                uses(MINE, word)
            self.assertIs(told.exception.value, word)


if __name__ == "__main__":
    unittest.main()
