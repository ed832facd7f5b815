"""Points [89] to [95], and what [2] says of desks."""

import copy
import random
import unittest

from calls import (
    NO_DESKS, NO_EDITS, NO_NAMES, NO_NEW_NAMES, NO_NUMBERS, NO_RECORDS, NO_SENT, NO_STORES, NO_TEXTS_OF_ABC, PARCEL, RECORD)
from owncuts import errors
from owncuts.desk import Desk, replayed
from owncuts.edits import edited, most_new
from owncuts.grounds import Ground
from owncuts.meeting import catch_up, caught_up
from owncuts.pieces import pieces
from owncuts.store import Store, names, put, store_of, text_in, unused, versions
from support import GROUND, NO_GROUNDS, NO_ORDERS, ORDER, PAIRS, PLAIN, some_orders


class Model:
    """A desk, told plainly: all that it has is copied ahead of each command."""

    def __init__(self, ground, order):
        self.ground, self.order = ground, order
        self.history, self.kept = {}, set()
        self.done, self.undone = [], []

    def state(self):
        return copy.deepcopy((self.history, self.kept))

    def whole(self):
        return copy.deepcopy((self.history, self.kept, self.done, self.undone))

    def go_back(self, whole):
        self.history, self.kept, self.done, self.undone = copy.deepcopy(whole)

    def pieces(self, text):
        return pieces(self.ground, self.order, text)

    def used(self):
        return {word for row in self.history.values() for text in row if text is not None for word in self.pieces(text)}

    def there(self, name):
        return [number for number, text in enumerate(self.history.get(name, [])) if text is not None]

    def make(self, command):
        self.done.append((copy.deepcopy(command), self.state()))
        self.undone = []
        word, *things = command
        if word == "put":
            return self.put(*things)
        if word == "change":
            name, (at, out, new) = things
            text = self.history[name][self.there(name)[-1]]
            return self.put(name, text[:at] + new + text[at + out:])
        if word == "drop":
            self.history[things[0]][things[1]] = None
        if word == "sweep":
            gone = sorted(self.kept - self.used())
            self.kept = self.used()
            return gone
        if word == "call":
            self.history[things[1]] = self.history.pop(things[0])
        if word == "take":
            for name, (words, items) in things[0]:
                told = []
                for item in items:
                    every = sorted(self.kept | set(words))
                    if item[0] == "piece":
                        told.append(every[item[1]])
                    else:
                        told += self.pieces(self.history[item[1]][item[2]])[item[3]:item[3] + item[4]]
                self.put(name, "".join(told))
                self.kept |= set(words)
            return len(things[0])

    def put(self, name, text):
        new = sorted(set(self.pieces(text)) - self.kept)
        self.history.setdefault(name, []).append(text)
        self.kept |= set(self.pieces(text))
        return (len(self.history[name]) - 1, new)

    def undo(self):
        command, state = self.done.pop()
        self.undone.append((command, self.state()))
        self.history, self.kept = copy.deepcopy(state)

    def redo(self):
        command, state = self.undone.pop()
        self.done.append((command, self.state()))
        self.history, self.kept = copy.deepcopy(state)

    def check(self, case, desk):
        store = desk.store()
        case.assertIs(type(store), Store)
        case.assertEqual((store.ground(), store.order()), (self.ground, self.order))
        case.assertEqual(list(store.history().items()), sorted(self.history.items()))
        case.assertEqual(store.kept(), sorted(self.kept))
        case.assertEqual(desk.names(), sorted(self.history))
        for name in self.history:
            there = self.there(name)
            case.assertEqual(desk.versions(name), there)
            case.assertEqual([desk.text_in(name, number) for number in there], [self.history[name][number] for number in there])
            if len(there) > 1:
                had, has = [set(self.pieces(self.history[name][number])) for number in there[-2:]]
                case.assertEqual(desk.touched(name), (sorted(has & had), sorted(has - had)))
        case.assertEqual(desk.unused(), sorted(self.kept - self.used()))
        case.assertEqual(desk.record(), [command for command, _ in self.done])


def some_command(dice, model):
    """A command that can be made as things are."""
    name = dice.choice(["a", "b", "notes", "abcdefgh"])
    there = model.there(name)
    text = "".join(dice.choices(model.ground.signs(), k=dice.choice([0, 1, 4, 11, 25])))
    what = dice.randrange(8)
    if what < 2 and there:
        old = model.history[name][there[-1]]
        at = dice.randrange(len(old) + 1)
        return ("change", name, (at, dice.randrange(len(old) - at + 1), text[:4]))
    if what == 2 and there:
        return ("drop", name, dice.choice(there))
    if what == 3:
        return ("sweep",)
    if what == 4 and name in model.history and "other" not in model.history:
        return ("call", name, "other")
    if what == 5:
        one = put(Store(model.ground, model.order), dice.choice(["a", "log"]), text)
        now = store_of(model.ground, model.order, model.history, sorted(model.kept))
        return ("take", catch_up(one, now))
    return ("put", name, text)


def make(desk, command):
    return getattr(desk, command[0])(*command[1:])


class Stop(Exception):
    pass


class WhateverIsDone(unittest.TestCase):
    def some_steps(self, dice, desk, model, deep):
        for _ in range(12):
            what = dice.randrange(10)
            if what < 5:
                command = some_command(dice, model)
                self.assertEqual(make(desk, command), model.make(command))
            elif what == 5:
                self.undo_or_redo(desk, model, "undo", model.done, errors.NothingToUndo)
            elif what == 6:
                self.undo_or_redo(desk, model, "redo", model.undone, errors.NothingToRedo)
            elif what == 7 and deep < 4:
                self.a_block(dice, desk, model, deep)
            elif what == 8:
                other, late = desk.copy(), copy.deepcopy(model)
                late.check(self, other)
                if deep < 4:
                    self.some_steps(dice, other, late, deep + 3)
            else:
                self.what_raises(desk, dice)
            model.check(self, desk)

    def undo_or_redo(self, desk, model, word, left, kind):
        if left:
            self.assertIsNone(getattr(desk, word)())
            getattr(model, word)()
        else:
            with self.assertRaises(kind):
                getattr(desk, word)()

    def a_block(self, dice, desk, model, deep):
        whole = model.whole()
        how = dice.randrange(3)
        if how == 0:
            with desk.trial() as name:
                self.assertIs(name, desk)
                self.some_steps(dice, desk, model, deep + 1)
        elif how == 1:
            with self.assertRaises(Stop):
                with desk.trial():
                    self.some_steps(dice, desk, model, deep + 1)
                    raise Stop
        else:
            answer = [desk]
            self.assertIs(desk.attempt(lambda given: self.some_steps(dice, given, model, deep + 1) or answer), answer)
        model.go_back(whole)

    def what_raises(self, desk, dice):
        action, kind = dice.choice([
            (lambda: desk.put("A", "a"), errors.InvalidName), (lambda: desk.put("a", "abz"), errors.InvalidText),
            (lambda: desk.change("no", (0, 0, "")), errors.InvalidName), (lambda: desk.drop("no", 0), errors.InvalidName),
            (lambda: desk.call("no", "a"), errors.InvalidName), (lambda: desk.take(None), errors.InvalidParcel),
            (lambda: desk.take([("a", ([], [])), None]), errors.InvalidParcel), (lambda: desk.newer(None), errors.InvalidStore),
            (lambda: desk.touched("no"), errors.InvalidName), (lambda: desk.text_in("no", 0), errors.InvalidName)])
        with self.assertRaises(kind):
            action()

    def test_a_desk_is_what_its_commands_made_of_it(self):
        for seed in range(25):
            ground, order = ((PAIRS, PLAIN), (GROUND, ORDER), (PAIRS, some_orders(PAIRS, 2)[1]))[seed % 3]
            self.some_steps(random.Random(seed), Desk(ground, order), Model(ground, order), 0)

    def test_each_command_back_and_again(self):
        for seed in range(6):
            dice = random.Random(seed)
            desk, model = Desk(PAIRS, PLAIN), Model(PAIRS, PLAIN)
            stores = [desk.store()]
            for _ in range(20):
                command = some_command(dice, model)
                make(desk, command)
                model.make(command)
                stores.append(desk.store())
            record = desk.record()
            for many in range(19, -1, -1):
                desk.undo()
                self.assertEqual(desk.store(), stores[many])
                self.assertEqual(desk.record(), record[:many])
            with self.assertRaises(errors.NothingToUndo):
                desk.undo()
            for many in range(1, 21):
                desk.redo()
                self.assertEqual(desk.store(), stores[many])
                self.assertEqual(desk.record(), record[:many])
            with self.assertRaises(errors.NothingToRedo):
                desk.redo()
            self.assertEqual(replayed(Desk(PAIRS, PLAIN), record).store(), desk.store())


class Commands(unittest.TestCase):
    def desk(self):
        desk = Desk(PAIRS, PLAIN)
        desk.put("notes", "abcabcaacba")
        desk.put("notes", "abcabcabcaacba")
        return desk

    def unchanged_by(self, desk, action, kind, value):
        """An error changes neither the store nor what can be undone or made again."""
        desk.put("x", "a")
        desk.undo()
        before = (desk.store(), desk.record())
        with self.assertRaises(kind) as told:
            action(desk)
        self.assertIs(told.exception.value, value)
        self.assertEqual((desk.store(), desk.record()), before)
        desk.redo()
        self.assertEqual(desk.record(), before[1] + [("put", "x", "a")])
        desk.undo()

    def test_an_empty_desk(self):
        desk = Desk(PAIRS, PLAIN)
        self.assertEqual(desk.store(), Store(PAIRS, PLAIN))
        self.assertEqual((desk.names(), desk.unused(), desk.record()), ([], [], []))
        for call, kind in ((desk.undo, errors.NothingToUndo), (desk.redo, errors.NothingToRedo)):
            with self.assertRaises(kind):
                call()
        self.assertIs(desk == desk, True)

    def test_wrong_grounds_and_orders(self):
        for ground in NO_GROUNDS:
            with self.assertRaises(errors.InvalidGround) as told:
                Desk(ground, None)
            self.assertIs(told.exception.value, ground)
        for order in NO_ORDERS:
            with self.assertRaises(errors.InvalidOrder) as told:
                Desk(GROUND, order)
            self.assertIs(told.exception.value, order)

    def test_what_the_store_tells(self):
        desk = self.desk()
        desk.drop("notes", 0)
        desk.put("log", "bb")
        store = desk.store()
        self.assertEqual(desk.names(), names(store))
        for name in names(store):
            self.assertEqual(desk.versions(name), versions(store, name))
            for number in versions(store, name):
                self.assertEqual(desk.text_in(name, number), text_in(store, name, number))
        self.assertEqual(desk.unused(), unused(store))
        # What was handed out is the store as it was then.
        before = store.history()
        desk.put("log", "cc")
        self.assertEqual(store.history(), before)

    def test_put(self):
        desk = Desk(PAIRS, PLAIN)
        self.assertEqual(desk.put("notes", "abcabcaacba"), (0, ["a", "aa", "bc", "bca", "cb"]))
        self.assertEqual(desk.put("notes", "abcabba"), (1, ["bb"]))
        self.assertEqual(desk.put("notes", ""), (2, []))
        desk.drop("notes", 2)
        self.assertEqual(desk.put("notes", "a"), (3, []))
        self.assertEqual(desk.put("abcdefgh", "cbc")[0], 0)
        for name in NO_NEW_NAMES:
            self.unchanged_by(desk, lambda desk: desk.put(name, None), errors.InvalidName, name)
        for text in NO_TEXTS_OF_ABC:
            self.unchanged_by(desk, lambda desk: desk.put("a", text), errors.InvalidText, text)
        self.assertEqual(desk.put(text="ab", name="named")[0], 0)

    def test_change(self):
        desk = self.desk()
        desk.drop("notes", 1)
        # The newest version that is there is edited.
        self.assertEqual(desk.change("notes", (7, 0, "bca")), (2, []))
        self.assertEqual(desk.text_in("notes", 2), "abcabcabcaacba")
        self.assertEqual(desk.change("notes", (0, 14, "cc"))[0], 3)
        self.assertEqual(desk.text_in("notes", 3), "cc")
        for edit in NO_EDITS + [(0, 3, ""), (3, 0, "a"), (1, 2, ""), (0, 0, "d"), (0, 0, "abz")]:
            self.unchanged_by(desk, lambda desk: desk.change("notes", edit), errors.InvalidEdit, edit)
        for name in NO_NAMES:
            self.unchanged_by(desk, lambda desk: desk.change(name, None), errors.InvalidName, name)
        # Of a name without a version that is there nothing can be edited, whatever the edit is.
        desk.put("log", "ab")
        desk.drop("log", 0)
        name = "lo" + "g"[:1]
        for edit in (None, (0, 0, "a"), (0, 0, "z")):
            self.unchanged_by(desk, lambda desk: desk.change(name, edit), errors.Refused, name)
        self.assertEqual(desk.change(edit=(0, 1, ""), name="notes")[0], 4)

    def test_drop_sweep_and_call(self):
        desk = self.desk()
        self.assertIsNone(desk.drop("notes", 0))
        self.assertEqual(desk.sweep(), [])
        self.assertIsNone(desk.drop("notes", 1))
        self.assertEqual(desk.names(), ["notes"])
        self.assertEqual(desk.sweep(), ["a", "aa", "bc", "bca", "cb"])
        self.assertEqual(desk.store().kept(), [])
        self.assertIsNone(desk.call("notes", "old"))
        self.assertEqual(desk.names(), ["old"])
        for _ in range(4):
            desk.undo()
        # What was dropped, and what a sweep took, is there again.
        self.assertEqual(desk.text_in("notes", 1), "abcabcabcaacba")
        self.assertEqual(desk.store().kept(), ["a", "aa", "bc", "bca", "cb"])
        self.assertEqual(desk.versions("notes"), [1])
        for number in [*NO_NUMBERS, 0]:
            for call in (lambda desk: desk.drop("notes", number), lambda desk: desk.text_in("notes", number)):
                self.unchanged_by(desk, call, errors.InvalidNumber, number)
        for name in NO_NAMES:
            for call in (lambda desk: desk.drop(name, None), lambda desk: desk.call(name, None), lambda desk: desk.versions(name),
                         lambda desk: desk.text_in(name, None), lambda desk: desk.touched(name)):
                self.unchanged_by(desk, call, errors.InvalidName, name)
        desk.put("log", "")
        for other in NO_NEW_NAMES + ["log", "notes"]:
            self.unchanged_by(desk, lambda desk: desk.call("notes", other), errors.InvalidName, other)

    def test_take_and_newer(self):
        desk = self.desk()
        other = Desk(PAIRS, PLAIN)
        other.put("log", "abcabba")
        sent = desk.newer(other.store())
        self.assertEqual(sent, catch_up(desk.store(), other.store()))
        right = caught_up(other.store(), sent)
        self.assertEqual(other.take(sent), 2)
        self.assertEqual(other.store(), right)
        self.assertEqual(desk.newer(other.store()), [])
        self.assertEqual(other.record(), [("put", "log", "abcabba"), ("take", sent)])
        self.assertEqual(desk.take(other.newer(desk.store())), 1)
        # To take nothing is a command, too.
        self.assertEqual(desk.take([]), 0)
        self.assertEqual(desk.record()[-1], ("take", []))
        for value in NO_STORES:
            self.unchanged_by(desk, lambda desk: desk.newer(value), errors.InvalidStore, value)
        for value in (Store(PAIRS, PLAIN[::-1]), Store(Ground("ab", 2), ["ab", "ba"])):
            self.unchanged_by(desk, lambda desk: desk.newer(value), errors.Refused, value)
        desk = Desk(PAIRS, PLAIN)
        desk.put("notes", "abcabcaacba")
        for value in NO_SENT:
            self.unchanged_by(desk, lambda desk: desk.take(value), errors.InvalidParcel, value)

    def test_what_is_taken_and_recorded_may_be_changed(self):
        desk = Desk(PAIRS, PLAIN)
        desk.put("notes", "abcabcaacba")
        sent = [("log", copy.deepcopy(PARCEL))]
        desk.take(sent)
        sent[0][1][0].clear()
        sent[0][1][1].clear()
        sent.clear()
        for _ in range(2):
            told = desk.record()
            self.assertEqual(told, [("put", "notes", "abcabcaacba"), ("take", [("log", PARCEL)])])
            told[1][1][0][1][0].append("c")
            told[1][1][0][1][1].clear()
            told[1][1].clear()
            told.clear()
        for call in (desk.names, desk.unused, lambda: desk.versions("log"), lambda: desk.touched("notes")[0],
                     lambda: desk.newer(Store(PAIRS, PLAIN))):
            if call is not None and len(desk.versions("notes")) < 2:
                desk.put("notes", "abcabba")
            right = copy.deepcopy(call())
            call().append("changed")
            self.assertEqual(call(), right)
        late = replayed(Desk(PAIRS, PLAIN), desk.record())
        self.assertEqual(late.record(), desk.record())

    def test_touched(self):
        desk = Desk(PAIRS, PLAIN)
        desk.put("a", "abcabba")
        self.unchanged_by(desk, lambda desk: desk.touched("a"), errors.Refused, desk.names()[0] and "a")
        desk.put("a", "abcabcaacba")
        self.assertEqual(desk.touched("a"), (["a", "bca"], ["aa", "bc", "cb"]))
        desk.put("a", "abcabba")
        desk.drop("a", 1)
        self.assertEqual(desk.touched("a"), (["a", "bb", "bca"], []))
        desk.drop("a", 0)
        self.unchanged_by(desk, lambda desk: desk.touched("a"), errors.Refused, "a")

    def test_behind_a_change_few_pieces_are_touched(self):
        dice = random.Random(9)
        for ground in (PAIRS, GROUND):
            for order in some_orders(ground, 3):
                most = sum(most_new(ground, order))
                for _ in range(10):
                    desk = Desk(ground, order)
                    text = "".join(dice.choices(ground.signs(), k=60))
                    at = dice.randrange(50)
                    desk.put("a", text)
                    desk.change("a", (at, 5, "ab"))
                    row = pieces(ground, order, edited(text, (at, 5, "ab")))
                    ends = [sum(map(len, row[:many + 1])) for many in range(len(row))]
                    far = {piece for piece, end in zip(row, ends) if end <= at or end - len(piece) >= at + 2}
                    self.assertLessEqual(len(far & set(desk.touched("a")[1])), most)


class Arguments(unittest.TestCase):
    """Each argument of each method: by position and by name, wrong alone and ahead of other wrong ones."""

    # Of a text of 11 signs, not of 5.
    EDITS = [edit for edit in NO_EDITS if edit not in [(6, 0, ""), (0, 6, ""), (3, 3, "")]] + [
        (12, 0, ""), (0, 12, ""), (6, 6, ""), (0, 0, "d")]
    METHODS = [
        ("versions", [("name", "notes", errors.InvalidName, NO_NAMES)]),
        ("text_in", [("name", "notes", errors.InvalidName, NO_NAMES), ("number", 0, errors.InvalidNumber, NO_NUMBERS)]),
        ("put", [("name", "new", errors.InvalidName, NO_NEW_NAMES), ("text", "abc", errors.InvalidText, NO_TEXTS_OF_ABC)]),
        ("change", [("name", "notes", errors.InvalidName, NO_NAMES), ("edit", (5, 0, "c"), errors.InvalidEdit, EDITS)]),
        ("drop", [("name", "notes", errors.InvalidName, NO_NAMES), ("number", 1, errors.InvalidNumber, NO_NUMBERS)]),
        ("call", [("name", "notes", errors.InvalidName, NO_NAMES), ("other", "old", errors.InvalidName, [*NO_NEW_NAMES, "notes"])]),
        ("take", [("sent", [("log", PARCEL)], errors.InvalidParcel, NO_SENT)]),
        ("newer", [("store", Store(PAIRS, PLAIN), errors.InvalidStore, NO_STORES)]),
        ("touched", [("name", "notes", errors.InvalidName, NO_NAMES)]),
    ]

    def desk(self, *more):
        desk = Desk(PAIRS, PLAIN)
        for text in ("abcabcaacba", *more, "a"):
            desk.put("notes", text)
        desk.undo()
        return desk

    def test_right_ones(self):
        for word, parameters in self.METHODS:
            names = [row[0] for row in parameters]
            goods = [row[1] for row in parameters]
            one, other = self.desk("acaab"), self.desk("acaab")
            told = getattr(one, word)(*goods)
            self.assertEqual(getattr(other, word)(**dict(reversed(list(zip(names, goods))))), told)
            self.assertEqual((one.store(), one.record()), (other.store(), other.record()))
            if word in ("put", "change", "drop", "call", "take"):
                self.assertEqual(one.record()[2:], [(word, *goods)])
                with self.assertRaises(errors.NothingToRedo):
                    one.redo()
            else:
                one.redo()

    def test_wrong_ones(self):
        desk = self.desk()
        before = (desk.store(), desk.record())
        for word, parameters in self.METHODS:
            names = [row[0] for row in parameters]
            for at, (_, _, kind, wrong) in enumerate(parameters):
                for value in wrong:
                    alone = [row[1] for row in parameters]
                    alone[at] = value
                    for arguments in (alone, alone[:at + 1] + [row[3][0] for row in parameters[at + 1:]]):
                        for call in (lambda: getattr(desk, word)(*arguments), lambda: getattr(desk, word)(**dict(zip(names, arguments))),
                                     lambda: getattr(desk, word)(**dict(reversed(list(zip(names, arguments)))))):
                            with self.assertRaises(kind) as told:
                                call()
                            self.assertIs(type(told.exception), kind)
                            self.assertIs(told.exception.value, value)
        self.assertEqual((desk.store(), desk.record()), before)
        desk.redo()
        self.assertEqual(desk.record(), before[1] + [("put", "notes", "a")])


class Blocks(unittest.TestCase):
    def desk(self):
        desk = Desk(PAIRS, PLAIN)
        desk.put("a", "ab")
        desk.put("a", "bc")
        desk.undo()
        return desk

    def test_a_block_begins_when_it_is_entered(self):
        desk = self.desk()
        block = desk.trial()
        desk.put("a", "cc")
        with block as name:
            self.assertIs(name, desk)
            desk.put("a", "bb")
        self.assertEqual(desk.versions("a"), [0, 1])
        self.assertEqual(desk.record(), [("put", "a", "ab"), ("put", "a", "cc")])

    def test_undo_and_redo_reach_ahead_of_a_block_and_all_is_as_it_was_behind_it(self):
        desk = self.desk()
        before = (desk.store(), desk.record())
        with desk.trial():
            desk.redo()
            self.assertEqual(desk.text_in("a", 1), "bc")
            desk.undo()
            desk.undo()
            self.assertEqual(desk.record(), [])
            with self.assertRaises(errors.NothingToUndo):
                desk.undo()
            desk.put("b", "c")
            with self.assertRaises(errors.NothingToRedo):
                desk.redo()
        self.assertEqual((desk.store(), desk.record()), before)
        desk.redo()
        self.assertEqual(desk.text_in("a", 1), "bc")
        desk.undo()
        desk.undo()
        self.assertEqual(desk.names(), [])

    def test_a_block_is_left_by_an_error_too(self):
        desk = self.desk()
        before = (desk.store(), desk.record())
        error = errors.InvalidText("a")
        with self.assertRaises(errors.InvalidText) as told:
            with desk.trial():
                desk.put("a", "cc")
                raise error
        self.assertIs(told.exception, error)
        self.assertEqual((desk.store(), desk.record()), before)
        with self.assertRaises(errors.InvalidText):
            desk.attempt(lambda given: given.put("b", "xyz"))
        with self.assertRaises(KeyboardInterrupt):
            with desk.trial():
                desk.sweep()
                raise KeyboardInterrupt
        self.assertEqual((desk.store(), desk.record()), before)

    def test_blocks_in_blocks(self):
        desk = self.desk()
        stores = [desk.store()]

        def deeper(deep):
            before = (desk.store(), desk.record())
            with desk.trial():
                desk.put("a", "c" * deep)
                stores.append(desk.store())
                if deep < 10:
                    deeper(deep + 1)
                self.assertEqual(desk.store(), stores[deep])
                desk.undo()
            self.assertEqual((desk.store(), desk.record()), before)

        deeper(1)
        self.assertEqual(len(set(map(id, stores))), 11)
        desk.redo()

    def test_attempt(self):
        desk = self.desk()
        before = (desk.store(), desk.record())
        calls = []

        def action(given):
            calls.append(given)
            given.put("b", "abc")
            return calls

        self.assertIs(desk.attempt(action), calls)
        self.assertEqual(len(calls), 1)
        self.assertIs(calls[0], desk)
        self.assertEqual((desk.store(), desk.record()), before)
        self.assertIsNone(desk.attempt(lambda given: None))
        self.assertIs(desk.attempt(action=lambda given: given), desk)
        self.assertEqual(desk.attempt(lambda given: given.attempt(lambda late: late.put("a", "b"))[0]), 1)

    def test_copy(self):
        desk = self.desk()
        other = desk.copy()
        self.assertIs(type(other), Desk)
        self.assertEqual((other.store(), other.record()), (desk.store(), desk.record()))
        other.redo()
        self.assertEqual((desk.versions("a"), other.versions("a")), ([0], [0, 1]))
        desk.redo()
        desk.undo()
        desk.undo()
        self.assertEqual((desk.names(), other.versions("a")), ([], [0, 1]))
        # Made in a block, it is in none.
        with desk.trial():
            desk.put("z", "a")
            late = desk.copy()
        self.assertEqual((desk.names(), late.names()), ([], ["z"]))
        late.undo()
        self.assertEqual(late.names(), [])


class Replayed(unittest.TestCase):
    def test_commands_are_made_on_a_copy(self):
        desk = Desk(PAIRS, PLAIN)
        record = copy.deepcopy(RECORD)
        late = replayed(desk, record)
        self.assertEqual(late.store().history(), {"log": ["aaa"], "old": [None, "abcabcabcaacba"]})
        self.assertEqual(late.record(), RECORD)
        self.assertEqual((desk.names(), desk.record()), ([], []))
        again = replayed(late, [("drop", "old", 1)])
        self.assertEqual(again.record(), RECORD + [("drop", "old", 1)])
        self.assertEqual(late.versions("old"), [1])
        self.assertEqual(replayed(late, []).store(), late.store())
        # What can be made again is the copy's, too, until a command comes.
        late.undo()
        other = replayed(late, [])
        other.redo()
        self.assertEqual(other.record(), RECORD)
        record[-1][1].clear()
        self.assertEqual(other.record(), RECORD)

    def test_wrong_arguments(self):
        for value in NO_DESKS:
            with self.assertRaises(errors.InvalidDesk) as told:
                replayed(value, None)
            self.assertIs(told.exception.value, value)
        for value in NO_RECORDS:
            with self.assertRaises(errors.InvalidRecord) as told:
                replayed(Desk(PAIRS, PLAIN), value)
            self.assertIs(told.exception.value, value)

    def test_the_error_of_the_first_command_that_raises_one(self):
        desk = Desk(PAIRS, PLAIN)
        wrong = ["a"]
        for record, kind, value in (
            ([("put", "a", "ab"), ("put", wrong, None), ("drop", "b", 0)], errors.InvalidName, wrong),
            ([("put", "a", "ab"), ("put", "a", wrong)], errors.InvalidText, wrong),
            ([("put", "a", "ab"), ("change", "a", wrong)], errors.InvalidEdit, wrong),
            ([("put", "a", "ab"), ("drop", "a", wrong)], errors.InvalidNumber, wrong),
            ([("put", "a", "ab"), ("drop", "a", 0), ("change", "a", wrong)], errors.Refused, "a"),
            ([("put", "a", "ab"), ("call", "a", wrong), ("put", None, None)], errors.InvalidName, wrong),
            ([("take", wrong)], errors.InvalidParcel, wrong),
            ([("sweep",), ("drop", "a", 0), ("put", 1, 1)], errors.InvalidName, "a"),
        ):
            with self.assertRaises(kind) as told:
                replayed(desk, record)
            self.assertIs(told.exception.value, value)
            self.assertEqual((desk.names(), desk.record()), ([], []))


if __name__ == "__main__":
    unittest.main()
