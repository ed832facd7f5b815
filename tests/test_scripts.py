"""Points [96] to [101]: scripts."""

import copy
import itertools
import random
import unittest

from calls import NO_DESKS, NO_SCRIPTS, SCRIPT
from owncuts import errors
from owncuts.desk import Desk
from owncuts.scripts import alike, end_of, fewest_kept, first_unlike, play, shortened
from owncuts.store import Store
from support import GROUND, NO_GROUNDS, ORDER, PAIRS, PLAIN, TWO, some_orders

OTHER = ["ba", "ab", "ac", "bc", "ca", "cb"]


def plain_play(desk, script):
    """What a script tells, told command by command."""
    found = []
    for command in script:
        if command[0] == "try":
            other = desk.copy()
            found.append(("tried", plain_play(other, command[1])))
        else:
            try:
                told = getattr(desk, command[0])(*command[1:])
                found.append(("done",) if told is None else ("told", told))
            except errors.CutError as error:
                found.append(("refused", type(error).__name__))
    return found


def some_script(dice, signs, many=9, deep=0):
    script = []
    for _ in range(many):
        name = dice.choice(["a", "b", "new"])
        text = "".join(dice.choices(signs, k=dice.randrange(7)))
        script.append(dice.choice([
            ("put", name, text), ("put", name, text), ("put", name, text), ("change", name, (dice.randrange(3), dice.randrange(3), text[:2])),
            ("drop", name, dice.randrange(3)), ("sweep",), ("call", name, dice.choice(["a", "old"])), ("undo",), ("undo",), ("redo",),
            ("names",), ("versions", name), ("text_in", name, dice.randrange(3)), ("unused",), ("touched", name),
            ("try", some_script(dice, signs, 3, deep + 1) if deep < 3 else [])]))
    return script


def some_scripts(many=30):
    for seed in range(many):
        dice = random.Random(seed)
        ground, order = ((PAIRS, PLAIN), (GROUND, ORDER), (PAIRS, OTHER))[seed % 3]
        yield ground, order, some_script(dice, ground.signs() + "z" * (seed % 5 == 0))


class Scripts(unittest.TestCase):
    def test_play(self):
        for ground, order, script in some_scripts(60):
            desk, other = Desk(ground, order), Desk(ground, order)
            before = copy.deepcopy(script)
            told = play(desk, script)
            self.assertEqual(told, plain_play(other, script))
            self.assertEqual((desk.store(), desk.record()), (other.store(), other.record()))
            self.assertEqual(script, before)
            # It goes on from what the desk is by then.
            self.assertEqual(play(desk, script), plain_play(other, script))

    def test_what_each_command_tells(self):
        desk = Desk(PAIRS, PLAIN)
        self.assertEqual(play(desk, SCRIPT), [
            ("told", (0, ["a", "b", "ba"])), ("told", (1, ["bb"])), ("done",), ("done",),
            ("tried", [("told", (0, [])), ("refused", "NothingToRedo")]), ("told", "abba"), ("told", (2, ["cbb"])),
            ("told", (["a"], ["cbb"])), ("done",), ("told", ["b"]), ("told", [0, 1, 2]), ("told", []), ("told", []),
            ("refused", "InvalidName"), ("refused", "NothingToRedo")])
        self.assertEqual(desk.names(), ["b"])

    def test_refusals(self):
        script = [
            ("undo",), ("redo",), ("put", "a", "xyz"), ("change", "a", (0, 0, "a")), ("put", "a", "ab"), ("change", "a", (3, 0, "a")),
            ("change", "a", (0, 0, "z")), ("drop", "a", 1), ("touched", "a"), ("call", "a", "a"), ("drop", "a", 0),
            ("change", "a", (9, 9, "")), ("text_in", "a", 0), ("versions", "b"), ("text_in", "b", 10 ** 29)]
        self.assertEqual([told[-1] for told in play(Desk(PAIRS, PLAIN), script)], [
            "NothingToUndo", "NothingToRedo", "InvalidText", "InvalidName", (0, ["a", "b"]), "InvalidEdit", "InvalidEdit",
            "InvalidNumber", "Refused", "InvalidName", "done", "Refused", "InvalidNumber", "InvalidName", "InvalidName"])

    def test_behind_a_try_the_desk_is_as_it_was(self):
        desk = Desk(PAIRS, PLAIN)
        play(desk, [("put", "a", "ab"), ("put", "a", "cc"), ("undo",)])
        told = play(desk, [("try", [("undo",), ("put", "b", "c"), ("try", [("sweep",), ("names",)]), ("names",)]), ("redo",), ("names",)])
        self.assertEqual(told, [
            ("tried", [("done",), ("told", (0, ["c"])), ("tried", [("told", []), ("told", ["b"])]), ("told", ["b"])]),
            ("done",), ("told", ["a"])])
        self.assertEqual(desk.text_in("a", 1), "cc")

    def test_right_scripts(self):
        for script in ([], [("try", [])], [("try", [("try", [("try", [("try", [("sweep",)])])])])],
                       [("put", "abcdefgh", "xyz"), ("change", "z", (10 ** 29, 10 ** 29, "qqq")), ("drop", "a", 10 ** 29)]):
            self.assertEqual(len(play(Desk(PAIRS, PLAIN), script)), len(script))

    def test_wrong_arguments(self):
        for value in NO_DESKS:
            with self.assertRaises(errors.InvalidDesk) as told:
                play(value, None)
            self.assertIs(told.exception.value, value)
        for value in NO_SCRIPTS:
            desk = Desk(PAIRS, PLAIN)
            calls = [lambda: play(desk, value), lambda: end_of(PAIRS, PLAIN, value), lambda: shortened(PAIRS, PLAIN, value),
                     lambda: alike(PAIRS, PLAIN, value, None), lambda: alike(PAIRS, PLAIN, [], value),
                     lambda: first_unlike(PAIRS, PLAIN, OTHER, value), lambda: fewest_kept(PAIRS, [PLAIN], value)]
            for call in calls:
                with self.assertRaises(errors.InvalidScript) as told:
                    call()
                self.assertIs(told.exception.value, value)
            self.assertEqual(desk.record(), [])
        for call in (end_of, shortened, lambda ground, order, script: alike(ground, order, script, script)):
            for ground in NO_GROUNDS:
                with self.assertRaises(errors.InvalidGround):
                    call(ground, None, None)
            for order in (None, PLAIN[1:], ORDER):
                with self.assertRaises(errors.InvalidOrder):
                    call(PAIRS, order, None)


class Outcomes(unittest.TestCase):
    def test_end_of(self):
        for ground, order, script in some_scripts():
            desk = Desk(ground, order)
            plain_play(desk, script)
            self.assertEqual(end_of(ground, order, script), desk.store())
        self.assertEqual(end_of(PAIRS, PLAIN, []), Store(PAIRS, PLAIN))

    def test_shortened(self):
        shorter = 0
        for ground, order, script in some_scripts():
            before = copy.deepcopy(script)
            told = shortened(ground, order, script)
            self.assertEqual(script, before)
            goal = end_of(ground, order, script)
            left = list(range(len(script)))
            for position in reversed(range(len(script))):
                fewer = [at for at in left if at != position]
                if end_of(ground, order, [script[at] for at in fewer]) == goal:
                    left = fewer
            self.assertEqual(told, [script[at] for at in left])
            self.assertEqual(end_of(ground, order, told), goal)
            shorter += 0 < len(told) < len(script)
            for command in told:
                self.assertIn(command, script)
        self.assertGreater(shorter, 10)

    def test_what_is_shortened_is_new(self):
        # A try is never needed, but that it be passed does not make it a part of the result.
        script = [("put", "a", "ab"), ("try", [("put", "b", "a")]), ("sweep",)]
        told = shortened(PAIRS, PLAIN, script)
        self.assertEqual(told, [("put", "a", "ab")])
        told.clear()
        self.assertEqual(shortened(PAIRS, PLAIN, script), [("put", "a", "ab")])
        self.assertEqual(shortened(PAIRS, PLAIN, []), [])

    def test_alike(self):
        rows = list(some_scripts(12))
        for (ground, order, one), (_, _, other) in itertools.product(rows[::3], rows[::3]):
            self.assertIs(alike(ground, order, one, other), end_of(ground, order, one) == end_of(ground, order, other))
        self.assertIs(alike(PAIRS, PLAIN, [("put", "a", "ab"), ("undo",)], []), True)
        self.assertIs(alike(PAIRS, PLAIN, [("put", "a", "ab"), ("drop", "a", 0)], []), False)
        # What is kept may be alike by one order and unlike by another one.
        one = [("put", "a", "aba"), ("put", "a", "aab"), ("drop", "a", 1)]
        other = [("put", "a", "aba"), ("put", "a", "aaba"), ("drop", "a", 1)]
        self.assertEqual({alike(PAIRS, list(order), one, other) for order in itertools.permutations(PLAIN)}, {True, False})

    def test_histories_are_equal_by_one_order_exactly_if_by_any_other(self):
        rows = [script for ground, _, script in some_scripts(24) if ground == PAIRS]
        orders = some_orders(PAIRS, 4)
        for one, other in itertools.combinations(rows[:8] + [row[:-1] for row in rows[:4]], 2):
            told = {end_of(PAIRS, order, one).history() == end_of(PAIRS, order, other).history() for order in orders}
            self.assertEqual(len(told), 1)

    def test_first_unlike(self):
        seen = set()
        for ground, order, script in some_scripts():
            if ground == PAIRS:
                for other in some_orders(PAIRS, 4):
                    one, late = play(Desk(ground, order), script), play(Desk(ground, other), script)
                    unlike = [at for at in range(len(script)) if one[at] != late[at]]
                    told = first_unlike(ground, order, other, script)
                    self.assertEqual(told, unlike[0] if unlike else None)
                    seen.add(told)
        self.assertGreater(len(seen), 2)
        self.assertIsNone(first_unlike(PAIRS, PLAIN, PLAIN, SCRIPT))
        for other in (None, PLAIN[1:], tuple(PLAIN), ORDER):
            with self.assertRaises(errors.InvalidOrder) as told:
                first_unlike(PAIRS, PLAIN, other, None)
            self.assertIs(told.exception.value, other)
            with self.assertRaises(errors.InvalidOrder) as told:
                first_unlike(PAIRS, other, None, None)
            self.assertIs(told.exception.value, other)

    def test_fewest_kept(self):
        dice = random.Random(1)
        seen = set()
        for _ in range(20):
            script = [("put", "a", "".join(dice.choices("abc", k=20))) for _ in range(3)]
            orders = dice.sample(some_orders(PAIRS, 8), 6)
            many = [len(end_of(PAIRS, order, script).kept()) for order in orders]
            told = fewest_kept(PAIRS, orders, script)
            self.assertEqual(told, min(at for at in range(6) if many[at] == min(many)))
            seen.add(told)
        self.assertGreater(len(seen), 2)
        self.assertEqual(fewest_kept(PAIRS, [PLAIN, PLAIN], []), 0)
        for orders in ([], None, (PLAIN,), [PLAIN, None], PLAIN, [PLAIN, PLAIN[1:]]):
            with self.assertRaises(errors.InvalidOrder) as told:
                fewest_kept(PAIRS, orders, None)
            self.assertIs(told.exception.value, orders)
        with self.assertRaises(errors.InvalidGround):
            fewest_kept(None, [], None)

    def test_of_another_ground(self):
        self.assertEqual(end_of(TWO, ["ab", "ba"], [("put", "a", "abc")]), Store(TWO, ["ab", "ba"]))


if __name__ == "__main__":
    unittest.main()
