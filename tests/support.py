"""What several tests need: wrong things, the calls of the interface with right arguments, and plain definitions."""

import random
import time

from owncuts import cuts, errors, grounds, orders, periods, pieces, rings, rounds, rules, views
from owncuts.grounds import Ground

SECONDS = 5

ANY_OBJECTS = [
    None, True, False, 0, 1, -1, 2, 3, 10 ** 29, -(10 ** 29), "", "a", "ab", "aabb", "A", "a b", "a1", "`", "{", "a\n",
    "a\tb", " ", "-", (), ("a",), ("ab", 3), [], ["a"], ["a", 1], {}, {"a": 1}, {1: "a", (2, None): [3]}, ((("a",),),),
    Ground("ab", 3), Ground("abc", 2), errors.InvalidText("a"), errors.CutError(),
]

NO_WHOLE_NUMBERS = [None, True, False, "", "1", "a", (), (1,), [1], {1: 1}, Ground("ab", 2)]
NO_COUNTS = NO_WHOLE_NUMBERS + [-1, -(10 ** 29)]
NO_COUNTS_FROM_1 = NO_WHOLE_NUMBERS + [0, -1, -(10 ** 29)]
NO_COUNTS_FROM_2 = NO_COUNTS_FROM_1 + [1]
_NEITHER = [None, True, False, 0, 1, (), ("a",), ("a", "b"), [], ["a"], {}, {"a": "b"}]
NO_STRINGS = _NEITHER + [Ground("ab", 2)]
NO_TEXTS = NO_STRINGS + ["A", "aB", "a b", " ", "a1", "`", "{", "`a", "a{", "a\n", "\ta", "-", "ab~ba", "!"]
NO_WORDS = NO_TEXTS + [""]
NO_GROUNDS = _NEITHER + ["", "ab", ("ab", 3), ["ab", 3], {"ab": 3}, 3, errors.InvalidGround()]
# Windows of Ground("ab", 3) have four signs.
NO_WINDOWS = NO_TEXTS + ["", "a", "aab", "aabba", "aabc", "caab", "aAbb", "ab b", "abb\n", ["a", "a", "b", "b"]]

GROUND = Ground("ab", 3)
PAIRS = Ground("abc", 2)
TWO = Ground("ab", 2)
ORDER = ["aaab", "aaba", "aabb", "abaa", "abba", "abbb", "baaa", "baab", "babb", "bbaa", "bbab", "bbba"]
PLAIN = ["ab", "ac", "ba", "bc", "ca", "cb"]
ROUNDS = [["ab", "ac"], ["ba", "bc"], ["ca", "cb"]]
SETS = {"a": [0], "b": [1], "c": [2]}
WIDE_ROUNDS = [["aaab", "aabb", "abbb"], ["aaba", "abba"], ["abaa"], ["baaa", "baab"], ["babb", "bbaa"], ["bbab", "bbba"]]

NO_TEXTS_OF_AB = NO_TEXTS + ["c", "abc", "cab", "abz"]
NO_WORDS_OF_AB = NO_TEXTS_OF_AB + [""]
NO_ORDERS = _NEITHER + [
    "aaab", ORDER[:-1], ORDER[1:], ORDER + ["aaab"], ORDER[:-1] + ["aaab"], ORDER[:-1] + ["aaaa"], ORDER + ["aaaa"],
    tuple(ORDER), {window: rank for rank, window in enumerate(ORDER)}, [tuple(ORDER)], [ORDER], ORDER[:-1] + [["bbba"]],
    ORDER[:-1] + [None], ORDER[:-1] + [11], ORDER[:-1] + ["bbbc"], ORDER[:-1] + ["bbb"], ORDER[:-1] + ["BBBA"], PLAIN,
]
NO_ROUNDS = _NEITHER + [
    PLAIN, ROUNDS[:-1], ROUNDS + [[]], [[]] + ROUNDS, ROUNDS + [["ab"]], ROUNDS[:-1] + [["ca", "ca"]], tuple(ROUNDS),
    [tuple(row) for row in ROUNDS], [["ac", "ab"]] + ROUNDS[1:], [PLAIN], [["ab", "ba"], ["ac"], ["bc"], ["ca", "cb"]],
    ROUNDS[:-1] + [["ca", "cc"]], ROUNDS[:-1] + ["cacb"], ROUNDS[:-1] + [["ca", ["cb"]]], ROUNDS[:-1] + [["ca", None]],
    {0: ROUNDS[0], 1: ROUNDS[1], 2: ROUNDS[2]}, ROUNDS[:-1] + [["cb", "ca"]], ROUNDS[:-1] + [[True, "cb"]], WIDE_ROUNDS,
]
NO_SETS = _NEITHER + [
    {"a": [0], "b": [1]}, {"a": [0], "b": [1], "c": [2], "d": [3]}, {"a": [0], "b": [1], "d": [2]},
    {"a": [0], "b": [1], "c": [3]}, {"a": [0], "b": [1], "c": [-1]}, {"a": [0], "b": [1], "c": [1]},
    {"a": [0], "b": [1], "c": []}, {"a": [0], "b": [1], "c": [1, 2]}, {"a": [0, 2], "b": [2], "c": [1]},
    {"a": [0, 1], "b": [1, 2], "c": [2, 0]}, {"a": [0, 0], "b": [1], "c": [2]}, {"a": (0,), "b": (1,), "c": (2,)},
    {"a": [False], "b": [1], "c": [2]}, {"a": [0], "b": [True], "c": [2]}, {"a": ["0"], "b": [1], "c": [2]},
    {"a": 0, "b": 1, "c": 2}, [("a", [0]), ("b", [1]), ("c", [2])], {"a": [[0]], "b": [[1]], "c": [[2]]},
    {"a": [None], "b": [1], "c": [2]}, {0: [0], 1: [1], 2: [2]}, {"a": {0: 0}, "b": {1: 1}, "c": {2: 2}},
]
NO_PLACES = [
    None, True, 0, "", "ab", (), (1,), {}, {1: 2}, [True], [False, 1], [1, 1], [2, 1], [0, 3, 2], ["1"], [None], [(1,)],
    [[1]], [1, None], [0, True], GROUND,
]
NO_WORD_LISTS = [None, True, 0, "", "ab", (), ("a",), {}, {"a": 1}, [""], ["a", ""], ["A"], ["a b"], [1], [True], [None],
                 [["a"]], [("a",)], ["a", "b\n"], GROUND]
NO_TOLD = [
    None, True, 3, "", "a", [], ["a"], (), ("",), ("aabbab",), ("c",), (1,), (None,), (True,), (["a"],), {"a": 1}, ("a", "b"),
    ["a", "ab", 2, "", "b"], ("a", "ab", 1, "", "b"), ("a", "ab", 1, "a", "b"), ("a", "ab", 2, "ab", "b"),
    ("a", "ab", 2, "b", "b"), ("a", "aa", 2, "", "b"), ("a", "aab", 2, "", "b"), ("a", "", 4, "", "b"), ("", "ab", 2, "", "b"),
    ("a", "ab", 2, "", ""), ("aa", "ab", 2, "", "b"), ("a", "ab", 2, "", "bb"), ("a", "ab", True, "", "b"),
    ("a", "ab", "2", "", "b"), ("a", "ab", -2, "", "b"), ("a", "ab", None, "", "b"), ("a", "ab", 2, None, "b"),
    ("a", "ab", 2, "", "b", "a"), ("a", "ab", 2, "b"), ("c", "ab", 2, "", "b"), ("a", "ac", 2, "", "b"), ("a", "b", 3, "", "a"),
    ("a", ("a", "b"), 2, "", "b"), ("a", ["a", "b"], 2, "", "b"), ("a", "ab", 2, "", 1), ("a", "ab", [2], "", "b"), GROUND,
]
NO_ROWS = [None, True, 0, "", "a", (), {}, ["a"], [["a"]], ("a",), (("a",),), {("a",): 1}] + [
    [told] for told in NO_TOLD if told is not None] + [[("a",), ("a", "ab", 1, "", "b")]]
NO_RULES = _NEITHER + [
    (["ab", "ba"],), (["ab", "ba"], 1, 2), [["ab", "ba"], 1], (("ab", "ba"), 1), ([], 0), ([], 1), (["ab", "ba"], 3),
    (["ab", "ba"], -1), (["ab", "ba"], True), (["ab", "ba"], None), (["ab", "ba"], "1"), (["ba", "ab"], 1),
    (["ab", "ab"], 1), (["ab", "b"], 1), (["ab", "bc"], 1), ([""], 0), (["ab", 1], 1), (["ab", None], 1), ("ab", 1),
    (["ab", ["ba"]], 1), ({"ab": 1}, 1), (["AB"], 1), (["a b"], 1), ([["a", "b"]], 1), (["ab", "ba"], [1]),
]
NO_VIEWS = _NEITHER + [
    ("bba", ()) + ((),), ("bba",), ["bba", (2,)], ("bba", [2]), ("bba", 2), ("bba", "2"), ("bba", (1,)), ("bba", (1, 2)),
    ("bba", (True,)), ("baa", (True,)), ("baa", (2,)), ("bbaa", (2,)), ("bb", ()), ("bbc", ()), ("bba", (3,)), ("bba", (0,)),
    (("b", "b", "a"), (2,)), (["b", "b", "a"], (2,)), ("bba", {2: 2}), ("bba", (2, 2)), ("bba", ([2],)), ("bba", (None,)),
    ("bab", ()), (["bba"], [[2]]), "bba", {("bba", (2,)): 1}, (("bba", (2,)),), ("BBA", (2,)),
]
NO_TWINS = _NEITHER + [
    ("bba", (), ()), ("bba", (2,), (2,)), ["bba", (), (2,)], ("bba", (), [2]), ("bba", [], (2,)), ("bba", (2,)),
    ("bba", (), (2,), ()), ("bba", (), (1,)), ("bba", (), (True,)), ("baa", (), (1,)), ("baa", (), (True,)), ("bab", (1,), (2,)),
    ("bb", (), (2,)), ("bbc", (), (2,)), (["b", "b", "a"], (), (2,)), ("bba", None, (2,)), ("bba", (), 2), ("bba", (), {2: 2}),
    ("bba", ((),), (2,)), ("bba", (), ([2],)), "bba", (("bba", (), (2,)),), {("bba", (), (2,)): 1},
]

_TEXT = ("text", "abaab", errors.InvalidText, NO_TEXTS)
_WORD = ("word", "abaab", errors.InvalidWord, NO_WORDS)
_GROUND = ("ground", GROUND, errors.InvalidGround, NO_GROUNDS)
_PAIRS = ("ground", PAIRS, errors.InvalidGround, NO_GROUNDS)
_ROUNDS = ("rounds", ROUNDS, errors.InvalidRounds, NO_ROUNDS)
_TEXT_OF = ("text", "aabbbabaa", errors.InvalidText, NO_TEXTS_OF_AB)
_WORD_OF = ("word", "abababa", errors.InvalidWord, NO_WORDS_OF_AB)
_PLACES = ("places", [1, 4, 7], errors.InvalidCuts, NO_PLACES)
_PIECES = ("pieces", ["a", "bc", "b"], errors.InvalidPieces, NO_WORD_LISTS)
_ROW = ("row", [("a",), ("a", "b", 5, "", "a"), ("a",)], errors.InvalidPieces, NO_ROWS)
_RULE = ("rule", (["aab", "aba"], 1), errors.InvalidRule, NO_RULES)
_RING = ("ring", "abaab", errors.InvalidRing, NO_WORDS)
_RING_OF = ("ring", "aabab", errors.InvalidRing, NO_WORDS_OF_AB)
_RING_PLACES = ("places", [2], errors.InvalidCuts, NO_PLACES + [[-1], [5], [0, 5]])
_VIEW = ("view", ("bba", (2,)), errors.InvalidView, NO_VIEWS)
_TWIN = ("twin", ("bba", (), (2,)), errors.InvalidTwin, NO_TWINS)
# Places of own windows are in that text 1, 2, 3, 4, 5, 7 and 8.
NO_SITES = NO_WHOLE_NUMBERS + [-2, -1, 0, 6, 9, 10, 10 ** 29]
_WORD_PLACE = ("place", 7, errors.InvalidPlace, NO_WHOLE_NUMBERS + [-1, 8, 10 ** 29])


def _number(name, good, wrong=NO_COUNTS_FROM_1):
    return (name, good, errors.InvalidNumber, wrong)


def _window(name, good):
    return (name, good, errors.InvalidWindow, NO_WINDOWS)


def _place(good, wrong):
    return ("place", good, errors.InvalidPlace, wrong)


def _ordered(*more, ground=GROUND, order=ORDER, wrong=NO_ORDERS):
    """The parameters of a call with a ground and an order, ahead of others."""
    return [("ground", ground, errors.InvalidGround, NO_GROUNDS), ("order", order, errors.InvalidOrder, wrong), *more]


def _by_two(*more):
    return _ordered(*more, ground=TWO, order=["ab", "ba"], wrong=NO_ORDERS + [ORDER, ["ab", "ab"], ["ab"]])


def _value(good):
    # Any object may stand here.
    return ("value", good, None, [])


# Each call of the modules up to views: its parameters in their order, each with a right argument, its error, and wrong
# ones. (calls.py tells the others, too.)
CALLS = [
    (periods.periods, [_TEXT]),
    (periods.has_period, [_TEXT, _number("period", 3)]),
    (periods.least_period, [_WORD]),
    (periods.borders, [_TEXT]),
    (periods.root, [_WORD]),
    (periods.many_primitives, [_number("signs", 2), _number("length", 4)]),
    (periods.meeting_length, [_number("one", 2), _number("other", 3)]),
    (periods.two_period_word, [_number("one", 2), _number("other", 3)]),
    (periods.is_two_period_word, [_number("one", 2), _number("other", 3), _value("aba")]),
    (periods.stretches, [_TEXT, _number("below", 3, NO_COUNTS_FROM_2), _number("least", 4, NO_COUNTS_FROM_2)]),
    (grounds.Ground, [
        ("signs", "ab", errors.InvalidSigns, NO_TEXTS + ["", "a", "aa", "ba", "aab", "abb", "acb", "abz{", "zyx"]),
        ("gap", 3, errors.InvalidGap, NO_COUNTS_FROM_2),
    ]),
    (grounds.windows, [_GROUND]),
    (grounds.own_windows, [_GROUND]),
    (grounds.is_own, [_GROUND, _window("window", "aabb")]),
    (grounds.many_own, [_GROUND]),
    (grounds.distances, [_GROUND, _window("one", "aabb"), _window("other", "abba")]),
    (grounds.are_near, [_GROUND, _window("one", "aabb"), _window("other", "abba")]),
    (grounds.near_ones, [_GROUND, _window("window", "aabb")]),
    (grounds.near_text, [_GROUND, _window("one", "aabb"), _window("other", "abba")]),
    (grounds.is_near_text, [
        _GROUND, _window("one", "aabb"), _window("other", "abba"), _value(("aabba", 0, 1)),
    ]),
    (grounds.next_ones, [_GROUND, _window("window", "abab")]),
    (grounds.lone_rings, [_GROUND]),
] + [
    (orders.is_order, [_GROUND, _value(ORDER)]),
    (orders.plain_order, [_GROUND]),
    (orders.rank_of, _ordered(("window", "aabb", errors.InvalidWindow, NO_WINDOWS + ["aaaa", "abab", "bbbb"]))),
    (orders.depths, _ordered()),
    (orders.greatest_depth, _ordered()),
    (orders.falling_path, _ordered()),
    (orders.is_falling_path, _ordered(_value(["bbba", "bbaa", "baaa", "abaa", "aaba", "aaab"]))),
    (orders.mirrored_order, _ordered()),
] + [
    (rounds.are_rounds, [_PAIRS, _value(ROUNDS)]),
    (rounds.rounds_of, _ordered()),
    (rounds.order_of, [_PAIRS, _ROUNDS]),
    (rounds.least_rounds, [_PAIRS]),
    (rounds.fewest_rounds, [_PAIRS]),
    (rounds.are_fewest, [_PAIRS, _value(ROUNDS)]),
    (rounds.all_near, [_PAIRS]),
    (rounds.is_all_near, [_PAIRS, _value(["ab", "bc", "ca"])]),
    (rounds.are_sets, [_PAIRS, _number("number", 3), _value(SETS)]),
    (rounds.sets_of, [_PAIRS, _ROUNDS]),
    (rounds.rounds_by, [_PAIRS, _number("number", 3), ("sets", SETS, errors.InvalidSets, NO_SETS)]),
    (rounds.signs_for, [_number("number", 4)]),
    (rounds.rounds_for, [_number("many", 7, NO_COUNTS_FROM_2)]),
] + [
    (cuts.window_at, [_GROUND, _TEXT_OF, _place(3, NO_WHOLE_NUMBERS)]),
    (cuts.own_places, [_GROUND, _TEXT_OF]),
    (cuts.cuts, _ordered(_TEXT_OF)),
    (cuts.inner_cuts, _ordered(_TEXT_OF)),
    (cuts.are_cuts, _ordered(_TEXT_OF, _value([1, 4, 7]))),
    (cuts.cuts_by_rounds, [_PAIRS, _ROUNDS, ("text", "abcab", errors.InvalidText, NO_TEXTS + ["d", "abcd"])]),
    (cuts.barred_by, _ordered(_TEXT_OF, _place(5, NO_SITES))),
    (cuts.settled, _ordered(_TEXT_OF)),
    (cuts.asked_for, _ordered(_TEXT_OF, _place(5, NO_SITES))),
    (cuts.order_for, [_GROUND, _TEXT_OF, _PLACES]),
    (cuts.is_order_for, [_GROUND, _TEXT_OF, _PLACES, _value(ORDER)]),
] + [
    (pieces.pieces, _ordered(_TEXT_OF)),
    (pieces.cut_at, [_TEXT, ("places", [1, 3], errors.InvalidCuts, NO_PLACES + [[0], [5], [1, 6], [-1], [0, 2]])]),
    (pieces.joined, [_PIECES]),
    (pieces.places_between, [_PIECES]),
    (pieces.is_short, [_GROUND, _WORD_OF]),
    (pieces.is_long, [_GROUND, _WORD_OF]),
    (pieces.turn_of, [_GROUND, _WORD_OF]),
    (pieces.told_of, [_GROUND, _WORD_OF]),
    (pieces.word_of, [_GROUND, ("told", ("a", "ab", 2, "", "b"), errors.InvalidTold, NO_TOLD)]),
    (pieces.is_told, [_GROUND, _value(("a", "ab", 2, "", "b"))]),
    (pieces.told_text, _ordered(_TEXT_OF)),
    (pieces.text_of, [_GROUND, _ROW]),
    (pieces.size_of, [_GROUND, _ROW]),
    (pieces.sure_cuts, [_GROUND, _TEXT_OF]),
    (pieces.sure_pieces, [_GROUND, _TEXT_OF]),
    (pieces.retold, _ordered(
        ("text", "aabbbbbaa", errors.InvalidText, NO_TEXTS_OF_AB),
        ("position", 1, errors.InvalidPlace, NO_WHOLE_NUMBERS + [-1, 3, 10 ** 29]), _number("times", 7, NO_COUNTS))),
    (pieces.told_again, _ordered(_ROW)),
    (pieces.is_told_text, _ordered(_ROW)),
    (pieces.holding, _ordered(_TEXT_OF, ("position", 5, errors.InvalidPlace, NO_WHOLE_NUMBERS + [-1, 9, 10 ** 29]))),
] + [
    (rules.is_rule, [_GROUND, _value((["ab", "ba"], 1))]),
    (rules.marks, [_GROUND, _RULE, _TEXT_OF]),
    (rules.is_apart, [_GROUND, _RULE]),
    (rules.near_marks, [_GROUND, _RULE]),
    (rules.is_near_marks, [_GROUND, _RULE, _value(("aaba", 1, 2))]),
    (rules.markable, [_GROUND, _number("width", 4), _number("at", 2, NO_COUNTS + [5, 10 ** 29]), _TEXT_OF]),
    (rules.blind_text, [_GROUND, _number("width", 2), _number("least", 5, NO_COUNTS)]),
    (rules.is_blind_text, [_GROUND, _number("width", 2), _number("least", 5, NO_COUNTS), _value("aaaab")]),
    (rules.is_whole, [_GROUND, _RULE]),
    (rules.missed, [_GROUND, _RULE]),
    (rules.is_missed, [_GROUND, _RULE, _value(("abbaaaa", 3))]),
    (rules.reach, _ordered()),
    (rules.rule_of, _by_two()),
] + [
    (rings.ring_windows, [_GROUND, _RING_OF]),
    (rings.ring_cuts, _ordered(_RING_OF)),
    (rings.ring_pieces, _ordered(_RING_OF)),
    (rings.rotated, [_RING, _number("number", 7, NO_COUNTS)]),
    (rings.rotations_to, [("one", "abab", errors.InvalidRing, NO_WORDS), ("other", "baba", errors.InvalidRing, NO_WORDS)]),
    (rings.unrolled, [_RING, _number("times", 2)]),
    (rings.sure_part, _ordered(_RING_OF, _number("times", 9))),
    (rings.ring_order_for, [_GROUND, _RING_OF, _RING_PLACES]),
    (rings.is_ring_order_for, [_GROUND, _RING_OF, _RING_PLACES, _value(ORDER)]),
] + [
    (views.views, _by_two()),
    (views.is_view, _by_two(_value(("bba", (2,))))),
    (views.view_at, _by_two(_TEXT_OF, ("at", 1, errors.InvalidPlace, NO_WHOLE_NUMBERS))),
    (views.text_of_view, _by_two(_VIEW)),
    (views.is_text_of_view, _by_two(_VIEW, _value(("bbaa", 0)))),
    (views.next_views, _by_two(_VIEW)),
    (views.fates, _by_two(_WORD_OF)),
    (views.text_with_cut, _by_two(_WORD_OF, _WORD_PLACE)),
    (views.text_without_cut, _by_two(_WORD_OF, _WORD_PLACE)),
    (views.is_text_with_cut, _by_two(_WORD_OF, _WORD_PLACE, _value(("abababab", 0)))),
    (views.is_text_without_cut, _by_two(_WORD_OF, _WORD_PLACE, _value(("abababaa", 0)))),
    (views.twins, _by_two()),
    (views.heights, _by_two()),
    (views.texts_of_twin, _by_two(_TWIN)),
    (views.is_texts_of_twin, _by_two(_TWIN, _value(("bbab", "bbaa", 0)))),
    (views.tolls, _by_two()),
    (views.fates_begun, _by_two(_TEXT_OF)),
]


def in_time(case, action, *arguments):
    """Return what a call returns; fail if it takes longer than some seconds."""
    begun = time.perf_counter()
    told = action(*arguments)
    case.assertLess(time.perf_counter() - begun, SECONDS, action.__name__)
    return told


def texts_up_to(signs, most):
    """All texts on some signs of at most so many signs, the empty one first."""
    found = [""]
    for text in found:
        if len(text) < most:
            found.extend([text + sign for sign in signs])
    return found


def repeats_by(text, period):
    """Whether signs so far apart are alike all along a text."""
    return all(text[at] == text[at + period] for at in range(len(text) - period))


def plain_periods(text):
    return [period for period in range(1, len(text)) if repeats_by(text, period)]


def some_orders(ground, many=3):
    """The plain order of a ground, and some others, always the same."""
    found = [grounds.own_windows(ground) for _ in range(many)]
    for seed, order in enumerate(found[1:]):
        random.Random(seed).shuffle(order)
    return found


def plain_window(ground, text, place):
    """The signs on both sides of a place of a text between two endless rows."""
    row = dict(enumerate(text))
    half = ground.gap() - 1
    return "".join(row.get(at, ground.signs()[0]) for at in range(place - half, place + half))


def plain_is_own(ground, window):
    return not [period for period in plain_periods(window) if period < ground.gap()]


def plain_sites(ground, text):
    """The places of own windows of a text, with their windows."""
    seen = {place: plain_window(ground, text, place) for place in range(-ground.gap(), len(text) + ground.gap() + 1)}
    return {place: window for place, window in seen.items() if plain_is_own(ground, window)}


def plain_cuts(ground, order, text):
    """The cuts, told place by place as the document defines them."""
    sites = plain_sites(ground, text)
    found = {}

    def is_cut(place):
        if place not in found:
            rank = order.index(sites[place])
            found[place] = not any(
                order.index(sites[other]) < rank and is_cut(other)
                for other in sites if 0 < abs(other - place) < ground.gap())
        return found[place]

    return [place for place in sites if is_cut(place)]
