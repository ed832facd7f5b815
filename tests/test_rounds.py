"""Points [24] to [28]: rounds."""

import itertools
import math
import unittest

from owncuts import errors
from owncuts.grounds import Ground, are_near, own_windows
from owncuts.orders import depths, greatest_depth, plain_order
from owncuts.rounds import (
    all_near, are_fewest, are_rounds, are_sets, fewest_rounds, is_all_near, least_rounds, order_of, rounds_by, rounds_for,
    rounds_of, sets_of, signs_for)
from support import ANY_OBJECTS, NO_ROUNDS, NO_SETS, ORDER, PAIRS, PLAIN, ROUNDS, SETS, TWO, WIDE_ROUNDS, some_orders

WIDE = Ground("ab", 3)
GROUNDS = [TWO, PAIRS, Ground("bdxz", 2), WIDE, Ground("az", 3)]


def are_plain_rounds(ground, value):
    flat = [window for row in value for window in row]
    return (sorted(flat) == own_windows(ground) and [] not in value and all(row == sorted(row) for row in value)
            and not any(are_near(ground, one, other) for row in value for one in row for other in row))


def can_be_done(ground, rows, left, many):
    """Whether the windows that are left can be put to rows, or to new ones, of which there are so many at most."""
    if not left:
        return True
    for row in rows:
        if not any(are_near(ground, left[0], other) for other in row):
            row.append(left[0])
            if can_be_done(ground, rows, left[1:], many):
                return True
            row.pop()
    return len(rows) < many and can_be_done(ground, rows + [[left[0]]], left[1:], many)


class Rounds(unittest.TestCase):
    def test_are_rounds(self):
        parts = [[list(part) for many in range(4) for part in itertools.combinations(PLAIN, many)]] * 3
        many = 0
        for value in itertools.product(*parts):
            right = are_plain_rounds(PAIRS, value)
            many += right
            self.assertIs(are_rounds(PAIRS, list(value)), right, value)
        self.assertGreater(many, 0)

    def test_every_window_alone_is_a_round(self):
        for ground in GROUNDS:
            for order in some_orders(ground):
                self.assertIs(are_rounds(ground, [[window] for window in order]), True)

    def test_nothing_else_is_rounds(self):
        for value in ANY_OBJECTS + NO_ROUNDS:
            self.assertIs(are_rounds(PAIRS, value), False, value)
        self.assertIs(are_rounds(PAIRS, ROUNDS), True)
        self.assertIs(are_rounds(WIDE, WIDE_ROUNDS), are_plain_rounds(WIDE, WIDE_ROUNDS))
        self.assertIs(are_rounds(Ground("abcdefghijklmnopqrstuvwxyz", 60), [["ab"]]), False)

    def test_rounds_of(self):
        for ground in GROUNDS:
            for order in some_orders(ground, 4):
                told = depths(ground, order)
                rows = rounds_of(ground, order)
                right = [[window for window in sorted(order) if told[window] == depth]
                         for depth in range(1, greatest_depth(ground, order) + 1)]
                self.assertEqual(rows, right)
                self.assertTrue(are_plain_rounds(ground, rows))
                self.assertIs(are_rounds(ground, rows), True)

    def test_order_of(self):
        for ground in GROUNDS:
            for order in some_orders(ground, 4):
                rows = rounds_of(ground, order)
                self.assertEqual(order_of(ground, rows), [window for row in rows for window in row])
                self.assertLessEqual(greatest_depth(ground, order_of(ground, rows)), len(rows))
                self.assertEqual(order_of(ground, [[window] for window in order]), order)


class Fewest(unittest.TestCase):
    def test_least_rounds(self):
        for ground in GROUNDS + [Ground("abcde", 2)]:
            least = least_rounds(ground)
            own = own_windows(ground)
            self.assertTrue(can_be_done(ground, [], own, least))
            self.assertFalse(can_be_done(ground, [], own, least - 1))

    def test_it_is_the_least_of_all_greatest_depths(self):
        for ground in (TWO, PAIRS):
            found = [greatest_depth(ground, list(order)) for order in itertools.permutations(own_windows(ground))]
            self.assertEqual(least_rounds(ground), min(found))

    def test_at_gap_two_it_is_told_by_the_number_of_signs(self):
        for many in range(2, 7):
            self.assertEqual(least_rounds(Ground("abcdef"[:many], 2)), rounds_for(many))

    def test_fewest_rounds(self):
        for ground in GROUNDS + [Ground("abcde", 2), Ground("abcdef", 2)]:
            rows = fewest_rounds(ground)
            self.assertTrue(are_plain_rounds(ground, rows))
            self.assertEqual(len(rows), least_rounds(ground))
            self.assertIs(are_fewest(ground, rows), True)

    def test_are_fewest(self):
        self.assertIs(are_fewest(PAIRS, ROUNDS), True)
        self.assertIs(are_fewest(PAIRS, ROUNDS[::-1]), True)
        self.assertIs(are_fewest(PAIRS, [["ab"], ["ac"]] + ROUNDS[1:]), False)
        self.assertIs(are_fewest(WIDE, rounds_of(WIDE, ORDER)), False)
        self.assertIs(are_fewest(WIDE, [[window] for window in ORDER]), False)
        for value in ANY_OBJECTS + NO_ROUNDS:
            self.assertIs(are_fewest(PAIRS, value), False)


class AllNear(unittest.TestCase):
    def test_all_near(self):
        for ground in GROUNDS + [Ground("abcde", 2), Ground("ab", 4), Ground("abc", 3)]:
            group = all_near(ground)
            self.assertEqual(group, sorted(set(group)))
            self.assertTrue(all(are_near(ground, one, other) for one, other in itertools.combinations(group, 2)))
            self.assertIs(is_all_near(ground, group), True)
            for at in range(len(group)):
                self.assertIs(is_all_near(ground, group[:at] + group[at + 1:]), False)
            self.assertIs(is_all_near(ground, group + [group[-1]]), False)
            self.assertIs(is_all_near(ground, tuple(group)), False)

    def test_no_greater_one_is_there(self):
        for ground, most in ((TWO, 2), (PAIRS, 6), (Ground("bdxz", 2), 5), (WIDE, 7)):
            own = own_windows(ground)
            every = [list(row) for many in range(most + 1) for row in itertools.combinations(own, many)]
            near = {(one, other) for one in own for other in own if are_near(ground, one, other)}
            right = [row for row in every if all(pair in near for pair in itertools.combinations(row, 2))]
            greatest = max(len(row) for row in right)
            for row in every:
                self.assertIs(is_all_near(ground, row), row in right and len(row) == greatest)
            self.assertLessEqual(greatest, least_rounds(ground))

    def test_other_things_are_none(self):
        for value in ANY_OBJECTS + [["bc", "ab", "ca"], ["ab", "bc", "bc"], ["ab", "bc", "cc"], ["ab", "bc", None],
                                    ["ab", "bc", ["ca"]], ["ab", "bc", "cd"], ["ab", "bc", "ca", "cb"]]:
            self.assertIs(is_all_near(PAIRS, value), False, value)


class Sets(unittest.TestCase):
    def is_right(self, number, sets):
        rows = [set(row) for row in sets.values()]
        return (all(0 <= position < number for row in rows for position in row)
                and not any(one >= other for one, other in itertools.permutations(rows, 2)))

    def every(self, signs, number):
        rows = [list(row) for many in range(number + 2) for row in itertools.combinations(range(number + 1), many)]
        for told in itertools.product(rows, repeat=len(signs)):
            yield dict(zip(signs, told))

    def test_are_sets(self):
        for ground, number in ((TWO, 1), (TWO, 2), (TWO, 3), (PAIRS, 2), (PAIRS, 3), (Ground("bdxz", 2), 2)):
            for sets in self.every(ground.signs(), number):
                self.assertIs(are_sets(ground, number, sets), self.is_right(number, sets), (number, sets))

    def test_other_things_are_none(self):
        for value in ANY_OBJECTS + NO_SETS:
            self.assertIs(are_sets(PAIRS, 3, value), False, value)
        self.assertIs(are_sets(PAIRS, 3, SETS), True)
        self.assertIs(are_sets(PAIRS, 3, {"c": [2], "a": [0], "b": [1]}), True)
        self.assertIs(are_sets(PAIRS, 10 ** 29, {"a": [10 ** 29 - 1], "b": [1, 10 ** 28], "c": [2, 3, 5]}), True)
        self.assertIs(are_sets(PAIRS, 2, SETS), False)

    def test_a_ground_of_another_gap_has_none(self):
        self.assertIs(are_sets(WIDE, 3, {"a": [0], "b": [1]}), False)
        for number in (0, -1, True, None):
            with self.assertRaises(errors.InvalidNumber):
                are_sets(WIDE, number, {"a": [0], "b": [1]})

    def test_sets_of(self):
        for ground in (TWO, PAIRS, Ground("bdxz", 2), Ground("abcdef", 2)):
            for order in some_orders(ground, 4):
                rows = rounds_of(ground, order)
                sets = sets_of(ground, rows)
                right = {sign: [at for at, row in enumerate(rows) if any(window[0] == sign for window in row)]
                         for sign in ground.signs()}
                self.assertEqual(list(sets.items()), list(right.items()))
                self.assertIs(are_sets(ground, len(rows), sets), True)
                self.assertTrue(self.is_right(len(rows), sets))
                self.assertLessEqual(len(rounds_by(ground, len(rows), sets)), len(rows))

    def test_sets_of_is_refused_at_other_gaps(self):
        rows = rounds_of(WIDE, ORDER)
        with self.assertRaises(errors.Refused) as told:
            sets_of(WIDE, rows)
        self.assertIs(told.exception.value, WIDE)
        with self.assertRaises(errors.InvalidRounds) as told:
            sets_of(WIDE, rows[1:])

    def test_rounds_by(self):
        for ground, number in ((TWO, 2), (TWO, 4), (PAIRS, 3), (PAIRS, 4), (Ground("bdxz", 2), 3)):
            for sets in self.every(ground.signs(), number):
                if self.is_right(number, sets):
                    right = {}
                    for window in own_windows(ground):
                        least = min(set(sets[window[0]]) - set(sets[window[1]]))
                        right.setdefault(least, []).append(window)
                    rows = rounds_by(ground, number, sets)
                    self.assertEqual(rows, [right[at] for at in sorted(right)])
                    self.assertTrue(are_plain_rounds(ground, rows))

    def test_rounds_by_leaves_empty_ones_out(self):
        sets = {"c": [10 ** 29], "b": [7], "a": [5, 6]}
        self.assertEqual(rounds_by(PAIRS, 10 ** 29 + 1, sets), [["ab", "ac"], ["ba", "bc"], ["ca", "cb"]])

    def test_one_round_has_no_sets(self):
        for sets in ({"a": [0], "b": []}, {"a": [0], "b": [0]}, {"a": [], "b": []}):
            self.assertIs(are_sets(TWO, 1, sets), False)
            with self.assertRaises(errors.InvalidSets) as told:
                rounds_by(TWO, 1, sets)
            self.assertIs(told.exception.value, sets)

    def test_rounds_by_is_refused_ahead_of_wrong_sets(self):
        for sets in (None, {}, SETS, {"a": [0], "b": [1]}):
            with self.assertRaises(errors.Refused) as told:
                rounds_by(WIDE, 2, sets)
            self.assertIs(told.exception.value, WIDE)
        with self.assertRaises(errors.InvalidNumber):
            rounds_by(WIDE, 0, None)


class Numbers(unittest.TestCase):
    def test_signs_for(self):
        self.assertEqual([signs_for(number) for number in range(1, 9)], [1, 2, 3, 6, 10, 20, 35, 70])
        for number in range(1, 101):
            self.assertEqual(signs_for(number), math.comb(number, number // 2))

    def test_rounds_for(self):
        for many in list(range(2, 300)) + [10 ** 9, 10 ** 30 - 1]:
            number = rounds_for(many)
            self.assertGreaterEqual(signs_for(number), many)
            self.assertLess(signs_for(number - 1), many)

    def test_so_many_signs_have_sets(self):
        for number in range(2, 6):
            signs = "abcdefghijklmnopqrstuvwxyz"[:signs_for(number)]
            rows = [list(row) for row in itertools.combinations(range(number), number // 2)]
            ground = Ground(signs, 2)
            sets = dict(zip(signs, rows))
            self.assertIs(are_sets(ground, number, sets), True)
            self.assertLessEqual(len(rounds_by(ground, number, sets)), number)
            self.assertEqual(plain_order(ground), sorted(order_of(ground, rounds_by(ground, number, sets))))


if __name__ == "__main__":
    unittest.main()
