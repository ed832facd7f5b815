"""What several tests need: wrong things, the calls of the interface with right arguments, and plain definitions."""

import time

from owncuts import errors, grounds, periods
from owncuts.grounds import Ground

SECONDS = 5

ANY_OBJECTS = [
    None, True, False, 0, 1, -1, 2, 3, 10 ** 29, -(10 ** 29), "", "a", "ab", "aabb", "A", "a b", "a1", "`", "{", "a\n",
    "a\tb", " ", "-", (), ("a",), ("ab", 3), [], ["a"], ["a", 1], {}, {"a": 1}, {1: "a", (2, None): [3]}, ((("a",),),),
    Ground("ab", 3), Ground("abc", 2), errors.InvalidText("a"), errors.CutError(),
]

NO_WHOLE_NUMBERS = [None, True, False, "", "1", "a", (), (1,), [1], {1: 1}, Ground("ab", 2)]
NO_COUNTS_FROM_1 = NO_WHOLE_NUMBERS + [0, -1, -(10 ** 29)]
NO_COUNTS_FROM_2 = NO_COUNTS_FROM_1 + [1]
_NEITHER = [None, True, False, 0, 1, (), ("a",), ("a", "b"), [], ["a"], {}, {"a": "b"}]
NO_STRINGS = _NEITHER + [Ground("ab", 2)]
NO_TEXTS = NO_STRINGS + ["A", "aB", "a b", " ", "a1", "`", "{", "`a", "a{", "a\n", "\ta", "-", "ab~ba", "!"]
NO_WORDS = NO_TEXTS + [""]
NO_GROUNDS = _NEITHER + ["", "ab", ("ab", 3), ["ab", 3], {"ab": 3}, 3, errors.InvalidGround()]
# Windows of Ground("ab", 3) have four signs.
NO_WINDOWS = NO_TEXTS + ["", "a", "aab", "aabba", "aabc", "caab", "aAbb", "ab b", "abb\n", ["a", "a", "b", "b"]]

GROUND = Ground("ab", 3)

_TEXT = ("text", "abaab", errors.InvalidText, NO_TEXTS)
_WORD = ("word", "abaab", errors.InvalidWord, NO_WORDS)
_GROUND = ("ground", GROUND, errors.InvalidGround, NO_GROUNDS)


def _number(name, good, wrong=NO_COUNTS_FROM_1):
    return (name, good, errors.InvalidNumber, wrong)


def _window(name, good):
    return (name, good, errors.InvalidWindow, NO_WINDOWS)


def _value(good):
    # Any object may stand here.
    return ("value", good, None, [])


# Each call of the interface: its parameters in their order, each with a right argument, its error, and wrong ones.
CALLS = [
    (periods.periods, [_TEXT]),
    (periods.has_period, [_TEXT, _number("period", 3)]),
    (periods.least_period, [_WORD]),
    (periods.borders, [_TEXT]),
    (periods.root, [_WORD]),
    (periods.many_primitives, [_number("signs", 2), _number("length", 4)]),
    (periods.meeting_length, [_number("one", 2), _number("other", 3)]),
    (periods.two_period_word, [_number("one", 2), _number("other", 3)]),
    (periods.is_two_period_word, [_number("one", 2), _number("other", 3), _value("aba")]),
    (periods.stretches, [_TEXT, _number("below", 3, NO_COUNTS_FROM_2), _number("least", 4, NO_COUNTS_FROM_2)]),
    (grounds.Ground, [
        ("signs", "ab", errors.InvalidSigns, NO_TEXTS + ["", "a", "aa", "ba", "aab", "abb", "acb", "abz{", "zyx"]),
        ("gap", 3, errors.InvalidGap, NO_COUNTS_FROM_2),
    ]),
    (grounds.windows, [_GROUND]),
    (grounds.own_windows, [_GROUND]),
    (grounds.is_own, [_GROUND, _window("window", "aabb")]),
    (grounds.many_own, [_GROUND]),
    (grounds.distances, [_GROUND, _window("one", "aabb"), _window("other", "abba")]),
    (grounds.are_near, [_GROUND, _window("one", "aabb"), _window("other", "abba")]),
    (grounds.near_ones, [_GROUND, _window("window", "aabb")]),
    (grounds.near_text, [_GROUND, _window("one", "aabb"), _window("other", "abba")]),
    (grounds.is_near_text, [
        _GROUND, _window("one", "aabb"), _window("other", "abba"), _value(("aabba", 0, 1)),
    ]),
    (grounds.next_ones, [_GROUND, _window("window", "abab")]),
    (grounds.lone_rings, [_GROUND]),
]


def right_arguments(parameters):
    return [good for _, good, _, _ in parameters]


def same_kind_and_worth(one, other):
    """Whether two things are equal, and alike in their kinds all the way down."""
    return one == other and repr(one) == repr(other)


def in_time(case, action, *arguments):
    """Return what a call returns; fail if it takes longer than some seconds."""
    begun = time.perf_counter()
    told = action(*arguments)
    case.assertLess(time.perf_counter() - begun, SECONDS, action.__name__)
    return told


def texts_up_to(signs, most):
    """All texts on some signs of at most so many signs, the empty one first."""
    found = [""]
    for text in found:
        if len(text) < most:
            found.extend([text + sign for sign in signs])
    return found


def repeats_by(text, period):
    """Whether signs so far apart are alike all along a text."""
    return all(text[at] == text[at + period] for at in range(len(text) - period))


def plain_periods(text):
    return [period for period in range(1, len(text)) if repeats_by(text, period)]
