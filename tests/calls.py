"""The calls of all modules, with right and wrong arguments; those of edits, likeness and stores are told here."""

from owncuts import desk, edits, errors, likeness, meeting, papers, scripts, store
from owncuts.desk import Desk
from owncuts.grounds import Ground
from owncuts.store import Store
from support import (
    CALLS, GROUND, NO_COUNTS, NO_GROUNDS, NO_ORDERS, NO_ROUNDS, NO_ROWS, NO_RULES, NO_STRINGS, NO_TEXTS, NO_TEXTS_OF_AB,
    NO_WORDS, ORDER, PAIRS, PLAIN, ROUNDS, TWO)

EMPTY = Store(PAIRS, PLAIN)
# Pieces of notes: a, bca, bc, aa, cb, a; of log: a, bca, bb, a.
MINE = store.put(EMPTY, "notes", "abcabcaacba")
YOURS = store.put(MINE, "log", "abcabba")
STORE = store.put(MINE, "notes", "abcabcabcaacba")
PARCEL = (["bb"], [("copy", "notes", 0, 0, 2), ("piece", 2), ("piece", 0)])
SCRIPT = [
    ("put", "a", "abab"), ("put", "a", "abba"), ("drop", "a", 0), ("undo",), ("try", [("put", "b", "a"), ("redo",)]),
    ("text_in", "a", 1), ("change", "a", (0, 1, "c")), ("touched", "a"), ("call", "a", "b"), ("names",), ("versions", "b"),
    ("sweep",), ("unused",), ("drop", "a", 2), ("redo",)]
RECORD = [
    ("put", "notes", "abcabcaacba"), ("change", "notes", (7, 0, "bca")), ("drop", "notes", 0), ("sweep",),
    ("call", "notes", "old"), ("take", [("log", (["bb"], [("piece", 0), ("piece", 1)]))])]

NO_TEXTS_OF_ABC = NO_TEXTS + ["d", "abcd", "zabc"]
NO_EDITS = [None, True, 0, (), ("a",), [], ["a"], {}, "", "ab", GROUND] + [
    (1, 2), (1, 2, "a", "a"), [1, 2, "a"], (-1, 2, ""), (1, -1, ""), (True, 2, ""), (1, True, ""), (False, 0, "a"), (6, 0, ""),
    (0, 6, ""), (3, 3, ""), (1, 2, None), (1, 2, "A"), (1, 2, ["a"]), (1, 2, ("a",)), ("1", 2, ""), (1, None, ""), (1, "2", ""),
    (10 ** 29, 0, ""), (0, 10 ** 29, ""), (1, 2, 3), (1, 2, "a b"), (1, 2, "a\n"), ([1], 2, "a"), {1: 1, 2: 2, 3: "a"}, "12a"]
NO_EDITS_OF_AB = NO_EDITS + [(1, 2, "c"), (1, 2, "abca"), (0, 0, "z")]
NO_LISTS = [None, True, 0, "", "ab", (), ("aabb",), {}, {"aabb": 1}, GROUND] + [
    ["aabb", "aabb"], ["aaaa"], ["abab"], ["aab"], ["aabba"], ["aabc"], [""], [1], [None], [["aabb"]], ["aabb", True], ["AABB"],
    [("aabb",)], ["aabb", "abba", "aabb"]]
NO_NEW_NAMES = NO_WORDS + ["abcdefghi", "notesnotes", "note s"]
NO_NAMES = NO_NEW_NAMES + ["note", "notess", "log", "a"]
NO_NUMBERS = NO_COUNTS + [2, 3, 10 ** 29]
NO_STORES = [None, True, False, 0, 1, "", "ab", (), ("a",), [], ["a"], {}, {"notes": ["ab"]}, GROUND, (PAIRS, PLAIN, {}, []),
             Desk(PAIRS, PLAIN), {"a": STORE}, [STORE], (STORE,), Store]
NO_HISTORIES = [None, True, 0, 1, "", "ab", (), [], ["ab"], GROUND, STORE] + [
    {"a": []}, {"a": ()}, {"a": ("ab",)}, {"a": "ab"}, {"a": None}, {"a": ["ab", 1]}, {"a": ["ab", True]}, {"a": ["abd"]},
    {"a": ["A"]}, {"": ["ab"]}, {"A": ["ab"]}, {"abcdefghi": ["ab"]}, {1: ["ab"]}, {True: ["ab"]}, {None: ["ab"]},
    {("a",): ["ab"]}, {"a b": ["ab"]}, {"a": ["ab"], "b": []}, {"a": [["ab"]]}, {"a": [("ab",)]}, {"a": {0: "ab"}},
    [("a", ["ab"])], {"a": ["ab"], 2: ["ab"]}, {"a": [False]}, {"a": ["ab\n"]}]
NO_MORE_WORDS = [None, True, 0, "", "ab", (), ("ab",), {}, {"ab": 1}, GROUND] + [
    [""], ["ab", ""], ["d"], ["A"], [1], [None], [True], [["ab"]], [("ab",)], ["abca", "ab"], ["aabb"], ["abcabc"], ["a b"]]
# For the store MINE, which keeps a, aa, bc, bca and cb.
NO_PARCELS = [None, True, 0, "", "ab", (), [], {}, GROUND, MINE] + [
    (["bb"],), (["bb"], [], []), [["bb"], []], (("bb",), []), (["bb"], ()), (["bb"], {}), ({"bb": 1}, []), ("bb", []),
    (["bb", "bb"], []), (["cc", "bb"], []), (["bca"], []), (["a", "bb"], []), (["d"], []), ([""], []), (["abca"], []), ([1], []),
    ([None], []), ([True], []), ([["bb"]], []), (["bb"], None), (["bb"], "ab"), (["bb"], [None]), (["bb"], ["piece"]),
    (["bb"], [["piece", 0]]), (["bb"], [("piece",)]), (["bb"], [("piece", 6)]), (["bb"], [("piece", -1)]), ([], [("piece", 5)]),
    (["bb"], [("piece", True)]), (["bb"], [("piece", "0")]), (["bb"], [("piece", None)]), (["bb"], [("piece", 0, 1)]),
    (["bb"], [("pieces", 0)]), (["bb"], [("copy", "notes", 0, 0)]), (["bb"], [("copy", "notes", 0, 0, 0)]),
    (["bb"], [("copy", "notes", 0, 0, 7)]), (["bb"], [("copy", "notes", 0, 6, 1)]), (["bb"], [("copy", "notes", 0, 7, 0)]),
    (["bb"], [("copy", "notes", 0, 5, 2)]), (["bb"], [("copy", "notes", 1, 0, 1)]), (["bb"], [("copy", "log", 0, 0, 1)]),
    (["bb"], [("copy", "notes", False, 0, 1)]), (["bb"], [("copy", "notes", 0, False, 1)]),
    (["bb"], [("copy", "notes", 0, 0, True)]), (["bb"], [("copy", "notes", 0, -1, 1)]), (["bb"], [("copy", "notes", 0, 0, -1)]),
    (["bb"], [("copy", ["notes"], 0, 0, 1)]), (["bb"], [("copy", None, 0, 0, 1)]), (["bb"], [("copy", "notes", None, 0, 1)]),
    (["bb"], [("copy", "notes", 0, "0", 1)]), (["bb"], [("copy", "notes", 0, 0, 10 ** 29)]),
    (["bb"], [("copy", "notes", 0, 0, 1, 1)]), (["bb"], [(["copy"], "notes", 0, 0, 1)]), (["bb"], [("piece", 0), None]),
    (["bb"], [("copy", "notes", [0], 0, 1)]), (["bb"], [(None, 0)]), (["bb"], [("piece", 10 ** 29)])]
NO_SENT = [None, True, 0, "", "ab", (), {}, GROUND, MINE] + [
    [None], ["log"], [("log",)], [["log", PARCEL]], [("log", PARCEL, 1)], [(PARCEL, "log")], [("", PARCEL)], [("LOG", PARCEL)],
    [("abcdefghi", PARCEL)], [(None, PARCEL)], [(["log"], PARCEL)], (("log", PARCEL),), {"log": PARCEL}, [("log", list(PARCEL))],
    # Once the first one is unpacked, bb is kept.
    [("log", PARCEL), ("log", PARCEL)], [("log", PARCEL), None]] + [[("log", parcel)] for parcel in NO_PARCELS]
NO_DESKS = [None, True, False, 0, "", "ab", (), [], {}, GROUND, STORE, [Desk(PAIRS, PLAIN)], (PAIRS, PLAIN), Desk]
NO_RECORDS = [None, True, 0, "", "ab", (), {}, GROUND, ("sweep",), [None], [()], [[]], ["sweep"], [["sweep"]], [("sweeps",)]] + [
    [("sweep", 1)], [("put",)], [("put", "a")], [("put", "a", "a", "a")], [("drop", "a")], [("change", "a")], [("call", "a")],
    [("take",)], [("take", [], [])], [("undo",)], [("redo",)], [("names",)], [("try", [])], [(None,)], [(["sweep"],)],
    [("sweep",), ("sweep", None)], (("sweep",),), [("text_in", "a", 0)], [("versions", "a")], [(True,)], [({"put": 1}, 2, 3)]]
NO_SCRIPTS = [None, True, 0, "", "ab", (), {}, GROUND, ("sweep",), [None], [()], [[]], ["sweep"], [["sweep"]], [("sweeps",)]] + [
    [("sweep", 1)], [("put",)], [("put", "a")], [("put", "a", "a", "a")], [("put", "", "a")], [("put", "abcdefghi", "a")],
    [("put", "A", "a")], [("put", "a", "A")], [("put", "a", None)], [("put", "a", ["a"])], [("put", 1, "a")], [("drop", "a", -1)],
    [("drop", "a", True)], [("drop", "a", "0")], [("drop", "a")], [("change", "a", (0, 0))], [("change", "a", [0, 0, ""])],
    [("change", "a", (0, -1, ""))], [("change", "a", (True, 0, ""))], [("change", "a", (0, 0, "A"))],
    [("change", "a", (0, 0, None))], [("change", "a", (0, False, ""))], [("call", "a", "")], [("call", "a")], [("undo", 1)],
    [("redo", None)], [("names", [])], [("versions",)], [("versions", 1)], [("text_in", "a")], [("text_in", "a", None)],
    [("unused", "a")], [("touched",)], [("touched", "A")], [("try",)], [("try", None)], [("try", ())], [("try", [None])],
    [("try", [("try", [("put", "a", "B")])])], [("try", [], [])], [("take", [])], [("store",)], [("copy",)], [("record",)],
    [("sweep",), ("try", [("sweep",), "sweep"])], [(None,)], [(["sweep"],)], (("sweep",),), [({"put": 1}, "a", "a")],
    [("drop", "a", 0.5)], [("text_in", ["a"], 0)], [("versions", ("a",))]]


def _grounded(*more, ground=PAIRS):
    return [("ground", ground, errors.InvalidGround, NO_GROUNDS), *more]


def _ordered(*more, ground=PAIRS, order=PLAIN, name="order"):
    wrong = NO_ORDERS[:-1] + [ORDER, PLAIN[:-1], PLAIN + ["ab"], PLAIN[:-1] + ["ab"], tuple(PLAIN), PLAIN[:-1] + ["cd"]]
    return _grounded((name, order, errors.InvalidOrder, wrong), *more, ground=ground)


def _by_ab(*more):
    return [("ground", GROUND, errors.InvalidGround, NO_GROUNDS), ("order", ORDER, errors.InvalidOrder, NO_ORDERS), *more]


def _store(good=STORE, name="store"):
    return (name, good, errors.InvalidStore, NO_STORES)


def _name(good="notes", wrong=NO_NAMES, name="name"):
    return (name, good, errors.InvalidName, wrong)


def _number(good=1, wrong=NO_NUMBERS):
    return ("number", good, errors.InvalidNumber, wrong)


def _script(good=SCRIPT, name="script"):
    return (name, good, errors.InvalidScript, NO_SCRIPTS)


def _value(good):
    return ("value", good, None, [])


_TEXT = ("text", "abaab", errors.InvalidText, NO_TEXTS)
_EDIT = ("edit", (1, 2, "cc"), errors.InvalidEdit, NO_EDITS)
_TEXT_OF = ("text", "aabbb", errors.InvalidText, NO_TEXTS_OF_AB)
_EDIT_OF = ("edit", (1, 2, "ab"), errors.InvalidEdit, NO_EDITS_OF_AB)
_ABC = ("text", "abcabba", errors.InvalidText, NO_TEXTS_OF_ABC)
_OTHER_ORDER = ("other", ["ba", "ab", "ac", "bc", "ca", "cb"], errors.InvalidOrder, NO_ORDERS[:-1] + [ORDER, PLAIN[1:]])
_OTHER = _OTHER_ORDER[1]
_PARCEL = ("parcel", PARCEL, errors.InvalidParcel, NO_PARCELS)
_BETWEEN = [_store(YOURS, "one"), _store(MINE, "other"), _name("log", [*NO_NEW_NAMES, "note", "logs"]), _number(0, NO_COUNTS + [1, 2])]

CALLS = CALLS + [
    (edits.edited, [_TEXT, _EDIT]),
    (edits.edit_back, [_TEXT, _EDIT]),
    (edits.edit_between, [_TEXT, ("late", "accab", errors.InvalidText, NO_TEXTS)]),
    (edits.changed_cuts, _by_ab(_TEXT_OF, _EDIT_OF)),
    (edits.spans, _by_ab(_TEXT_OF)),
    (edits.new_spans, _by_ab(_TEXT_OF, _EDIT_OF)),
    (edits.farthest, _ordered()),
    (edits.farthest_edit, _ordered()),
    (edits.is_farthest_edit, _ordered(_value(edits.farthest_edit(PAIRS, PLAIN)))),
    (edits.most_new, _ordered()),
    (edits.worst_edit, _ordered()),
    (edits.is_worst_edit, _ordered(_value(edits.worst_edit(PAIRS, PLAIN)))),
    (edits.alike_pieces, _ordered(_ABC, ("late", "abcabcaacba", errors.InvalidText, NO_TEXTS_OF_ABC))),
    (edits.least_look, _ordered()),
    (edits.least_rule, [
        ("ground", TWO, errors.InvalidGround, NO_GROUNDS), ("order", ["ab", "ba"], errors.InvalidOrder, NO_ORDERS)]),
] + [
    (likeness.cut_alike, _ordered(_OTHER_ORDER, name="one")),
    (likeness.parting_text, _ordered(_OTHER_ORDER, name="one")),
    (likeness.is_parting_text, _ordered(_OTHER_ORDER, _value(("aaba", 2)), name="one")),
    (likeness.idle_windows, _by_ab()),
    (likeness.cuts_by_list, [
        ("ground", GROUND, errors.InvalidGround, NO_GROUNDS), ("row", ["bbba", "aabb"], errors.InvalidOrder, NO_LISTS),
        ("text", "aabbbabaa", errors.InvalidText, NO_TEXTS_OF_AB)]),
    (likeness.least_list, _by_ab()),
] + [
    (store.Store, _ordered()),
    (store.store_of, _ordered(
        ("history", {"b": ["abcab", None], "a": [""]}, errors.InvalidHistory, NO_HISTORIES),
        ("more", ["cc", "ab", "abbbba", "cc"], errors.InvalidPieces, NO_MORE_WORDS))),
    (store.is_history, _grounded(_value({"b": ["abcab", None], "a": [""]}))),
    (store.names, [_store()]),
    (store.versions, [_store(), _name()]),
    (store.text_in, [_store(), _name(), _number()]),
    (store.put, [_store(), _name("new", NO_NEW_NAMES), _ABC]),
    (store.drop, [_store(), _name(), _number()]),
    (store.swept, [_store()]),
    (store.called, [_store(), _name(), _name("log", NO_NEW_NAMES + ["notes"], "other")]),
    (store.unused, [_store()]),
    (store.new_pieces, [_store(), _ABC]),
    (store.uses, [_store(), ("word", "bca", errors.InvalidWord, NO_TEXTS_OF_ABC + [""])]),
    (store.recipe, [_store(), _name(), _number()]),
    (store.sizes, [_store()]),
    (store.edits_of, [_store(), _name()]),
] + [
    (meeting.lacking, _BETWEEN),
    (meeting.is_parcel, [_store(MINE), _value(PARCEL)]),
    (meeting.told_by, [_store(MINE), _PARCEL]),
    (meeting.unpacked, [_store(MINE), _name("log", NO_NEW_NAMES), _PARCEL]),
    (meeting.parcel_for, _BETWEEN),
    (meeting.is_parcel_for, [*_BETWEEN, _value(PARCEL)]),
    (meeting.fewest_items, _BETWEEN),
    (meeting.bars, _BETWEEN),
    (meeting.are_bars, [*_BETWEEN, _value([(1, 2), (2, 3)])]),
    (meeting.catch_up, [_store(YOURS, "one"), _store(MINE, "other")]),
    (meeting.caught_up, [_store(MINE), ("sent", [("log", PARCEL)], errors.InvalidParcel, NO_SENT)]),
    (meeting.same_texts, [_store(YOURS, "one"), _store(MINE, "other")]),
] + [
    (desk.Desk, _ordered()),
    (desk.replayed, [
        ("desk", Desk(PAIRS, PLAIN), errors.InvalidDesk, NO_DESKS), ("record", RECORD, errors.InvalidRecord, NO_RECORDS)]),
] + [
    (scripts.play, [("desk", Desk(PAIRS, PLAIN), errors.InvalidDesk, NO_DESKS), _script()]),
    (scripts.end_of, _ordered(_script())),
    (scripts.shortened, _ordered(_script())),
    (scripts.alike, _ordered(_script(name="one"), _script(SCRIPT[:2], "other"))),
    (scripts.first_unlike, _ordered(_OTHER_ORDER, _script())),
    (scripts.fewest_kept, _grounded(
        ("orders", [PLAIN, PLAIN[::-1]], errors.InvalidOrder, [
            None, True, 0, "", "ab", (), [], {}, GROUND, PLAIN, (PLAIN,), [PLAIN, None], [PLAIN, PLAIN[1:]], [tuple(PLAIN)],
            [[]], [ORDER], {0: PLAIN}, [PLAIN, ["ab"] * 6]]),
        _script())),
] + [
    (papers.ground_text, _grounded()),
    (papers.order_text, _ordered()),
    (papers.rounds_text, _grounded(("rounds", ROUNDS, errors.InvalidRounds, NO_ROUNDS))),
    (papers.row_text, _grounded(("row", [("a",), ("a", "b", 5, "", "a")], errors.InvalidPieces, NO_ROWS), ground=GROUND)),
    (papers.rule_text, _grounded(("rule", (["aab", "aba"], 1), errors.InvalidRule, NO_RULES), ground=GROUND)),
    (papers.store_text, [_store()]),
]
_NO_PAPERS = NO_STRINGS + ["", "\n", "ground", "ground\n", "ground ab 2", "ground abc 1\n", "ground ab 02\n", "store\n", "ab"]
_WRITTEN = [
    (papers.read_ground, papers.ground_text(PAIRS)), (papers.read_order, papers.order_text(PAIRS, PLAIN)),
    (papers.read_rounds, papers.rounds_text(PAIRS, ROUNDS)),
    (papers.read_row, papers.row_text(GROUND, [("a",), ("a", "b", 5, "", "a")])),
    (papers.read_rule, papers.rule_text(GROUND, (["aab", "aba"], 1))), (papers.read_store, papers.store_text(STORE))]
CALLS = CALLS + [(call, [("text", text, errors.InvalidPaper, _NO_PAPERS)]) for call, text in _WRITTEN]


def right_arguments(parameters):
    # A desk may be changed by a call: each gets one of its own.
    return [good.copy() if isinstance(good, Desk) else good for _, good, _, _ in parameters]


def plain(thing):
    """A thing with grounds, stores and desks told by what their methods tell."""
    if isinstance(thing, Ground):
        return ("ground", thing.signs(), thing.gap())
    if isinstance(thing, Store):
        return ("store", plain(thing.ground()), thing.order(), thing.history(), thing.kept())
    if isinstance(thing, Desk):
        return ("desk", plain(thing.store()), thing.record())
    if isinstance(thing, (list, tuple)):
        return type(thing)([plain(part) for part in thing])
    return thing


def same_kind_and_worth(one, other):
    """Whether two things are equal, and alike in their kinds all the way down."""
    return plain(one) == plain(other) and repr(plain(one)) == repr(plain(other))
