"""Points [2] and [3]: what holds for every call of the modules."""

import copy
import unittest

from owncuts import errors, grounds, periods, scripts
from owncuts.grounds import Ground
from calls import CALLS, NO_EDITS, NO_HISTORIES, NO_PARCELS, right_arguments, same_kind_and_worth
from support import ANY_OBJECTS, GROUND, NO_ROUNDS, NO_SETS, NO_TOLD, NO_VIEWS, in_time


class WrongArguments(unittest.TestCase):
    def assert_raises(self, call, arguments, names, kind, value):
        """By position, by name, and by name in the opposite order."""
        named = list(zip(names, arguments))
        for told in (
            self.error_of(lambda: call(*arguments)),
            self.error_of(lambda: call(**dict(named))),
            self.error_of(lambda: call(**dict(reversed(named)))),
        ):
            self.assertIs(type(told), kind, (call, arguments))
            self.assertIs(told.value, value, (call, arguments))

    def error_of(self, action):
        with self.assertRaises(errors.CutError) as told:
            action()
        return told.exception

    def test_each_wrong_argument_alone(self):
        for call, parameters in CALLS:
            names = [row[0] for row in parameters]
            for at, (_, _, kind, wrong) in enumerate(parameters):
                for value in wrong:
                    arguments = right_arguments(parameters)
                    arguments[at] = value
                    self.assert_raises(call, arguments, names, kind, value)

    def test_each_wrong_argument_ahead_of_other_wrong_ones(self):
        for call, parameters in CALLS:
            names = [row[0] for row in parameters]
            for at, (_, _, kind, wrong) in enumerate(parameters):
                for value in wrong:
                    for late in range(2):
                        arguments = right_arguments(parameters)
                        arguments[at] = value
                        for behind in range(at + 1, len(parameters)):
                            others = parameters[behind][3] or [None, object()]
                            arguments[behind] = others[late]
                        self.assert_raises(call, arguments, names, kind, value)

    def test_a_judge_looks_at_its_other_arguments_whatever_the_value(self):
        for value in ANY_OBJECTS:
            self.assert_raises(
                periods.is_two_period_word, [2, 0, value], ["one", "other", "value"], errors.InvalidNumber, 0)
            self.assert_raises(
                grounds.is_near_text, [GROUND, "aabb", "aab", value], ["ground", "one", "other", "value"],
                errors.InvalidWindow, "aab")

    def test_refused_comes_behind_all_other_errors(self):
        names = ["text", "below", "least"]
        big = 10 ** 20
        least = 2 * big - 4
        self.assert_raises(periods.stretches, ["abc", big, least], names, errors.Refused, least)
        self.assert_raises(periods.stretches, ["ABC", big, least], names, errors.InvalidText, "ABC")
        self.assert_raises(periods.stretches, ["abc", True, 2], names, errors.InvalidNumber, True)
        self.assert_raises(periods.stretches, ["abc", 9, 1], names, errors.InvalidNumber, 1)

    def test_a_call_that_raises_changes_nothing(self):
        wrong = ["a", {"b": [1]}]
        for call, parameters in CALLS:
            for at in range(len(parameters)):
                arguments = right_arguments(parameters)
                arguments[at] = wrong
                if parameters[at][2] is not None:
                    with self.assertRaises(parameters[at][2]):
                        call(*arguments)
        self.assertEqual(wrong, ["a", {"b": [1]}])


class Judges(unittest.TestCase):
    def all_judges(self):
        for call, parameters in CALLS:
            if parameters[-1][0] == "value":
                yield call, right_arguments(parameters)

    def test_every_judge_tells_truth_of_any_object_and_leaves_it_as_it_was(self):
        rights = [arguments[-1] for _, arguments in self.all_judges()]
        self.assertEqual(len(rights), 28)
        for call, arguments in self.all_judges():
            for value in ANY_OBJECTS + NO_TOLD + NO_VIEWS + NO_ROUNDS + NO_SETS + NO_EDITS + NO_HISTORIES + NO_PARCELS + rights + [arguments[:-1]]:
                before = repr(value)
                self.assertIn(repr(call(*arguments[:-1], value)), ("True", "False"), (call, value))
                self.assertEqual(repr(value), before)

    def test_every_judge_knows_what_is_right_and_what_is_bent(self):
        for call, arguments in self.all_judges():
            value = arguments[-1]
            self.assertIs(call(*arguments), True, call)
            for bent in (None, [value], (value,), {"a": value}, True, repr(value), 3):
                self.assertIs(call(*arguments[:-1], bent), False, (call, bent))
            if isinstance(value, (list, tuple)):
                other = tuple if isinstance(value, list) else list
                self.assertIs(call(*arguments[:-1], other(value)), False, call)
                for at in range(len(value)):
                    for strange in (None, GROUND, [value[at]], -1, "A"):
                        bent = [*value[:at], strange, *value[at + 1:]]
                        bent = bent if isinstance(value, list) else tuple(bent)
                        self.assertIs(call(*arguments[:-1], bent), False, (call, bent))
                for bent in (value + value, value[:-1], value + type(value)((None,))):
                    self.assertIs(call(*arguments[:-1], bent), False, (call, bent))

    def test_any_object_is_judged_and_left_as_it_was(self):
        for value in ANY_OBJECTS + [("aabba", [0], {"a": 1}), [("aabba", 0, 1)], {"text": "aabba"}]:
            if isinstance(value, (list, dict, tuple)):
                before = copy.deepcopy(value)
            else:
                before = value
            self.assertIs(periods.is_two_period_word(2, 3, value), False)
            self.assertIs(grounds.is_near_text(GROUND, "aabb", "abba", value), False)
            self.assertEqual(value, before)

    def test_truth_is_told_by_true_and_false(self):
        told = [
            (periods.has_period("aa", 1), True), (periods.has_period("ab", 1), False),
            (periods.is_two_period_word(2, 3, "aba"), True), (periods.is_two_period_word(2, 3, "aaa"), False),
            (grounds.is_own(GROUND, "aabb"), True), (grounds.is_own(GROUND, "aaaa"), False),
            (grounds.are_near(GROUND, "aabb", "abba"), True), (grounds.are_near(GROUND, "aabb", "aabb"), False),
            (grounds.is_near_text(GROUND, "aabb", "abba", ("aabba", 0, 1)), True),
            (Ground("ab", 2) == Ground("ab", 2), True), (Ground("ab", 2) == Ground("ab", 3), False),
        ]
        for found, right in told:
            self.assertIs(found, right)


class Results(unittest.TestCase):
    def test_equal_calls_return_equal_things_of_the_same_kinds(self):
        for call, parameters in CALLS:
            one, other = call(*right_arguments(parameters)), call(*right_arguments(parameters))
            self.assertTrue(same_kind_and_worth(one, other), call)

    def change(self, thing):
        """Change every list and dictionary within a thing; return how many there were."""
        parts = []
        if isinstance(thing, (list, tuple)):
            parts = list(thing)
        if isinstance(thing, dict):
            parts = list(thing.values())
        many = sum(self.change(part) for part in parts)
        if isinstance(thing, list):
            thing.append("changed")
            thing.reverse()
        if isinstance(thing, dict):
            thing.clear()
        return many + isinstance(thing, (list, dict))

    def test_lists_and_dictionaries_are_new_each_time(self):
        many = 0
        for call, parameters in CALLS:
            arguments = copy.deepcopy(right_arguments(parameters))
            before = copy.deepcopy(arguments)
            told = call(*arguments)
            right = copy.deepcopy(told)
            many += self.change(told) > 0
            self.assertEqual(arguments[1:], before[1:], call)
            # What played on a desk changed it.
            again = copy.deepcopy(before) if call is scripts.play else arguments
            self.assertTrue(same_kind_and_worth(call(*again), right), call)
        self.assertEqual(many, 73)

    def test_arguments_changed_later_change_no_result(self):
        for call, parameters in CALLS:
            arguments = copy.deepcopy(right_arguments(parameters))
            told = call(*arguments)
            right = copy.deepcopy(told)
            for thing in arguments:
                self.change(thing)
            self.assertTrue(same_kind_and_worth(told, right), call)

    def test_keys_ascend(self):
        found = [call(*right_arguments(parameters)) for call, parameters in CALLS]
        tables = [told for told in found if isinstance(told, dict)]
        self.assertEqual(len(tables), 5)
        for told in tables:
            self.assertEqual(list(told), sorted(told))

    def test_a_ground_does_not_change(self):
        ground = Ground("abc", 2)
        for call in (grounds.windows, grounds.own_windows, grounds.lone_rings):
            call(ground).clear()
        grounds.near_ones(ground, "ab").clear()
        grounds.next_ones(ground, "ab").clear()
        self.assertEqual((ground.signs(), ground.gap(), ground.width()), ("abc", 2, 2))

    def test_true_and_one_are_told_apart_call_by_call(self):
        for _ in range(2):
            self.assertTrue(periods.has_period("aa", 1))
            with self.assertRaises(errors.InvalidNumber):
                periods.has_period("aa", True)
            self.assertTrue(grounds.is_near_text(GROUND, "aabb", "abba", ("aabba", 0, 1)))
            self.assertFalse(grounds.is_near_text(GROUND, "aabb", "abba", ("aabba", False, True)))


class Limits(unittest.TestCase):
    def test_texts_of_120_signs(self):
        for text in ("a" * 120, "ab" * 60, "a" * 119 + "b", "abaab" * 24, "abcdefghijkl" * 10):
            self.assertEqual(len(text), 120)
            for call in (periods.periods, periods.least_period, periods.borders, periods.root):
                in_time(self, call, text)
            in_time(self, periods.has_period, text, 60)
            for below, least in ((2, 2), (3, 3), (60, 117), (61, 119), (120, 237)):
                in_time(self, periods.stretches, text, below, least)

    def test_great_numbers(self):
        great = 10 ** 30 - 1
        self.assertFalse(in_time(self, periods.has_period, "aba", great))
        self.assertEqual(in_time(self, periods.stretches, "aaaa", great, 2 * great), [])
        self.assertEqual(in_time(self, periods.meeting_length, great, great - 1), 2 * great - 2)
        self.assertFalse(in_time(self, periods.is_two_period_word, great, great - 1, "aba"))
        many = in_time(self, periods.many_primitives, great, 120)
        self.assertEqual(many % great, 0)
        self.assertLess(great ** 120 - many, 2 * great ** 60)
        self.assertEqual(
            in_time(self, periods.many_primitives, great, 119), great ** 119 - great ** 17 - great ** 7 + great)

    def test_numbers_of_meeting_up_to_120(self):
        for one, other in ((119, 120), (80, 120), (60, 120), (120, 120), (1, 120), (113, 120), (118, 120)):
            word = in_time(self, periods.two_period_word, one, other)
            self.assertEqual(word is None, other % one == 0)
            self.assertEqual(in_time(self, periods.is_two_period_word, one, other, word), word is not None)

    def test_grounds_of_4096_windows(self):
        for signs, gap in (("ab", 7), ("abcd", 4), ("abcdefgh", 3), ("abcdefghijklmnopqrstuvwxyz", 2)):
            ground = Ground(signs, gap)
            found = in_time(self, grounds.windows, ground)
            own = in_time(self, grounds.own_windows, ground)
            self.assertEqual(len(found), len(signs) ** (2 * gap - 2))
            self.assertEqual(in_time(self, grounds.many_own, ground), len(own))
            rings = in_time(self, grounds.lone_rings, ground)
            self.assertEqual(len(own) + sum(len(ring) for ring in rings), len(found))
            for window in (own[0], found[0], found[-1]):
                in_time(self, grounds.near_ones, ground, window)

    def test_grounds_too_great_for_their_windows(self):
        ground = Ground("abcdefghijklmnopqrstuvwxyz", 60)
        one = "a" * 59 + "b" * 59
        other = "a" * 58 + "b" * 60
        row = "ab" * 59
        self.assertEqual(ground.width(), 118)
        own = in_time(self, grounds.many_own, ground)
        self.assertTrue(26 ** 118 - 2 * 26 ** 59 < own < 26 ** 118 - 26 ** 59)
        self.assertTrue(in_time(self, grounds.is_own, ground, one))
        self.assertFalse(in_time(self, grounds.is_own, ground, row))
        self.assertEqual(in_time(self, grounds.distances, ground, one, other), [1])
        self.assertEqual(in_time(self, grounds.distances, ground, row, row), list(range(2, 60, 2)))
        self.assertTrue(in_time(self, grounds.are_near, ground, other, one))
        told = in_time(self, grounds.near_text, ground, other, one)
        self.assertTrue(in_time(self, grounds.is_near_text, ground, other, one, told))
        self.assertEqual(len(in_time(self, grounds.next_ones, ground, one)), 26)


if __name__ == "__main__":
    unittest.main()
