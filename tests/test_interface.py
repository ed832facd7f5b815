"""Point [1]: every name stands in the module that the interface lists, with its arguments."""

import importlib
import inspect
import pathlib
import unittest

from calls import CALLS, right_arguments, same_kind_and_worth
from owncuts.desk import Desk
from owncuts.grounds import Ground
from owncuts.store import Store
from test_errors import WITH_VALUE, WITHOUT_VALUE

INTERFACE = {
    "owncuts.errors": ["CutError"] + WITH_VALUE + WITHOUT_VALUE,
    "owncuts.periods": [
        "periods(text)", "has_period(text, period)", "least_period(word)", "borders(text)", "root(word)",
        "many_primitives(signs, length)", "meeting_length(one, other)", "two_period_word(one, other)",
        "is_two_period_word(one, other, value)", "stretches(text, below, least)",
    ],
    "owncuts.grounds": [
        "Ground(signs, gap)", "windows(ground)", "own_windows(ground)", "is_own(ground, window)", "many_own(ground)",
        "distances(ground, one, other)", "are_near(ground, one, other)", "near_ones(ground, window)",
        "near_text(ground, one, other)", "is_near_text(ground, one, other, value)", "next_ones(ground, window)",
        "lone_rings(ground)",
    ],
    "owncuts.orders": [
        "is_order(ground, value)", "plain_order(ground)", "rank_of(ground, order, window)", "depths(ground, order)",
        "greatest_depth(ground, order)", "falling_path(ground, order)", "is_falling_path(ground, order, value)",
        "mirrored_order(ground, order)",
    ],
    "owncuts.rounds": [
        "are_rounds(ground, value)", "rounds_of(ground, order)", "order_of(ground, rounds)", "least_rounds(ground)",
        "fewest_rounds(ground)", "are_fewest(ground, value)", "all_near(ground)", "is_all_near(ground, value)",
        "are_sets(ground, number, value)", "sets_of(ground, rounds)", "rounds_by(ground, number, sets)",
        "signs_for(number)", "rounds_for(many)",
    ],
    "owncuts.cuts": [
        "window_at(ground, text, place)", "own_places(ground, text)", "cuts(ground, order, text)",
        "inner_cuts(ground, order, text)", "are_cuts(ground, order, text, value)",
        "cuts_by_rounds(ground, rounds, text)", "barred_by(ground, order, text, place)", "settled(ground, order, text)",
        "asked_for(ground, order, text, place)", "order_for(ground, text, places)",
        "is_order_for(ground, text, places, value)",
    ],
    "owncuts.pieces": [
        "pieces(ground, order, text)", "cut_at(text, places)", "joined(pieces)", "places_between(pieces)",
        "is_short(ground, word)", "is_long(ground, word)", "turn_of(ground, word)", "told_of(ground, word)",
        "word_of(ground, told)", "is_told(ground, value)", "told_text(ground, order, text)", "text_of(ground, row)",
        "size_of(ground, row)", "sure_cuts(ground, text)", "sure_pieces(ground, text)",
        "retold(ground, order, text, position, times)", "told_again(ground, order, row)",
        "is_told_text(ground, order, row)", "holding(ground, order, text, position)",
    ],
    "owncuts.rules": [
        "is_rule(ground, value)", "marks(ground, rule, text)", "is_apart(ground, rule)", "near_marks(ground, rule)",
        "is_near_marks(ground, rule, value)", "markable(ground, width, at, text)", "blind_text(ground, width, least)",
        "is_blind_text(ground, width, least, value)", "is_whole(ground, rule)", "missed(ground, rule)",
        "is_missed(ground, rule, value)", "reach(ground, order)", "rule_of(ground, order)",
    ],
    "owncuts.rings": [
        "ring_windows(ground, ring)", "ring_cuts(ground, order, ring)", "ring_pieces(ground, order, ring)",
        "rotated(ring, number)", "rotations_to(one, other)", "unrolled(ring, times)",
        "sure_part(ground, order, ring, times)", "ring_order_for(ground, ring, places)",
        "is_ring_order_for(ground, ring, places, value)",
    ],
    "owncuts.views": [
        "views(ground, order)", "is_view(ground, order, value)", "view_at(ground, order, text, at)",
        "text_of_view(ground, order, view)", "is_text_of_view(ground, order, view, value)",
        "next_views(ground, order, view)", "fates(ground, order, word)", "text_with_cut(ground, order, word, place)",
        "text_without_cut(ground, order, word, place)", "is_text_with_cut(ground, order, word, place, value)",
        "is_text_without_cut(ground, order, word, place, value)", "twins(ground, order)", "heights(ground, order)",
        "texts_of_twin(ground, order, twin)", "is_texts_of_twin(ground, order, twin, value)", "tolls(ground, order)",
        "fates_begun(ground, order, text)",
    ],
    "owncuts.edits": [
        "edited(text, edit)", "edit_back(text, edit)", "edit_between(text, late)",
        "changed_cuts(ground, order, text, edit)", "spans(ground, order, text)", "new_spans(ground, order, text, edit)",
        "farthest(ground, order)", "farthest_edit(ground, order)", "is_farthest_edit(ground, order, value)",
        "most_new(ground, order)", "worst_edit(ground, order)", "is_worst_edit(ground, order, value)",
        "alike_pieces(ground, order, text, late)", "least_look(ground, order)", "least_rule(ground, order)",
    ],
    "owncuts.likeness": [
        "cut_alike(ground, one, other)", "parting_text(ground, one, other)",
        "is_parting_text(ground, one, other, value)", "idle_windows(ground, order)", "cuts_by_list(ground, row, text)",
        "least_list(ground, order)",
    ],
    "owncuts.store": [
        "Store(ground, order)", "store_of(ground, order, history, more)", "is_history(ground, value)", "names(store)",
        "versions(store, name)", "text_in(store, name, number)", "put(store, name, text)", "drop(store, name, number)",
        "swept(store)", "called(store, name, other)", "unused(store)", "new_pieces(store, text)", "uses(store, word)",
        "recipe(store, name, number)", "sizes(store)", "edits_of(store, name)",
    ],
    "owncuts.meeting": [
        "lacking(one, other, name, number)", "is_parcel(store, value)", "told_by(store, parcel)",
        "unpacked(store, name, parcel)", "parcel_for(one, other, name, number)",
        "is_parcel_for(one, other, name, number, value)", "fewest_items(one, other, name, number)",
        "bars(one, other, name, number)", "are_bars(one, other, name, number, value)", "catch_up(one, other)",
        "caught_up(store, sent)", "same_texts(one, other)",
    ],
    "owncuts.desk": ["Desk(ground, order)", "replayed(desk, record)"],
    "owncuts.scripts": [
        "play(desk, script)", "end_of(ground, order, script)", "shortened(ground, order, script)",
        "alike(ground, order, one, other)", "first_unlike(ground, order, other, script)",
        "fewest_kept(ground, orders, script)",
    ],
    "owncuts.papers": [
        "ground_text(ground)", "read_ground(text)", "order_text(ground, order)", "read_order(text)",
        "rounds_text(ground, rounds)", "read_rounds(text)", "row_text(ground, row)", "read_row(text)",
        "rule_text(ground, rule)", "read_rule(text)", "store_text(store)", "read_store(text)",
    ],
}
METHODS = {
    Ground: ["signs()", "gap()", "width()"],
    Store: ["ground()", "order()", "history()", "kept()"],
    Desk: [
        "store()", "names()", "versions(name)", "text_in(name, number)", "unused()", "put(name, text)",
        "change(name, edit)", "drop(name, number)", "sweep()", "call(name, other)", "take(sent)", "newer(store)",
        "touched(name)", "trial()", "attempt(action)", "copy()", "undo()", "redo()", "record()",
    ],
}


class Interface(unittest.TestCase):
    def test_each_name_is_defined_in_its_module(self):
        for place, names in INTERFACE.items():
            module = importlib.import_module(place)
            for name in names:
                self.assertEqual(getattr(module, name.partition("(")[0]).__module__, place, name)

    def test_the_listed_names_are_those_of_the_document(self):
        path = pathlib.Path(__file__).resolve().parent.parent.parent / "shared" / "DOC.md"
        if not path.exists():
            self.skipTest("the document is not at hand")
        rows = [line.split(" | ") for line in path.read_text(encoding="utf-8").split("\n") if line.startswith("| `owncuts.")]
        told = {row[0].strip("| `"): row[1].partition(" |")[0] for row in rows}
        for place, names in INTERFACE.items():
            text = ", ".join([f"`{name}`" for name in names])
            for kind, methods in METHODS.items():
                if kind.__module__ == place:
                    methods = [f"`{name}`" for name in methods + ["=="] * ("__eq__" in vars(kind))]
                    first, _, rest = text.partition(")`, ")
                    text = f"class {first})` with {', '.join(methods)}; {rest}"
            self.assertEqual(text, told[place].removesuffix("|").strip(), place)

    def test_each_name_has_its_arguments(self):
        for place, names in INTERFACE.items():
            module = importlib.import_module(place)
            for name in [name for name in names if "(" in name]:
                word = name.partition("(")[0]
                self.assertEqual(word + str(inspect.signature(getattr(module, word))), name)

    def test_methods_stand_in_their_classes(self):
        for kind, methods in METHODS.items():
            for name in methods:
                word, _, rest = name.partition("(")
                self.assertIn(word, vars(kind))
                told = str(inspect.signature(getattr(kind, word)))
                self.assertEqual(told, "(self)" if rest == ")" else f"(self, {rest}")
        self.assertIn("__eq__", vars(Ground))
        self.assertIn("__eq__", vars(Store))

    def test_all_calls_of_the_interface_are_tested(self):
        listed = [name for place in INTERFACE if place != "owncuts.errors" for name in INTERFACE[place]]
        tested = [f"{call.__name__}({', '.join(row[0] for row in rows)})" for call, rows in CALLS]
        self.assertEqual(sorted(tested), sorted(listed))

    def test_arguments_by_position_and_by_name(self):
        for call, parameters in CALLS:
            told = call(*right_arguments(parameters))
            names = [row[0] for row in parameters]
            for first in (0, 1):
                arguments = right_arguments(parameters)
                named = dict(reversed(list(zip(names, arguments))[first:]))
                self.assertTrue(same_kind_and_worth(told, call(*arguments[:first], **named)), call)


if __name__ == "__main__":
    unittest.main()
