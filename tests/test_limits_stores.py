"""Point [3]: up to the limits, each call of edits, likeness, stores, desks, scripts and papers returns in time."""

import itertools
import unittest

from owncuts import desk, edits, likeness, meeting, orders, papers, rounds, scripts, store
from owncuts.desk import Desk
from owncuts.grounds import Ground
from owncuts.store import Store
from support import in_time, some_orders
from test_limits import GREAT, HUGE, LETTERS, MIDDLE, WIDEST, some_text, texts_of_120

NAMES = ["a", "abcdefgh", *["name" + letter for letter in "abcdefghij"]]
REPEATED = ["ab" * 60, "aab" * 40, "a" * 60 + "b" * 60, "abaabbab" * 15, "b" * 120, "ba" * 60, "abb" * 40]


class Edits(unittest.TestCase):
    def test_texts_of_120_signs(self):
        for ground in MIDDLE:
            for order in some_orders(ground, 2):
                for text in texts_of_120(ground.signs()):
                    late = some_text(ground.signs(), 120, 7)
                    half = len(text) // 2
                    for edit in ((0, 0, ""), (half, len(text) - half, late), (0, len(text), late), (half, 0, late)):
                        in_time(self, edits.changed_cuts, ground, order, text, edit)
                        in_time(self, edits.new_spans, ground, order, text, edit)
                        self.assertEqual(in_time(self, edits.edited, late, in_time(self, edits.edit_between, late, text)), text)
                        in_time(self, edits.edit_back, text, edit)
                    in_time(self, edits.spans, ground, order, text)
                    in_time(self, edits.alike_pieces, ground, order, text, late)

    def test_what_is_told_exactly(self):
        for ground in MIDDLE + [Ground("ab", 2), Ground("ab", 3)]:
            for order in some_orders(ground, 4):
                far = in_time(self, edits.farthest, ground, order)
                self.assertEqual(in_time(self, edits.least_look, ground, order), (far[1] + 1, far[0] + 1))
                in_time(self, edits.most_new, ground, order)
                for call, judge in ((edits.farthest_edit, edits.is_farthest_edit), (edits.worst_edit, edits.is_worst_edit)):
                    text, edit = in_time(self, call, ground, order)
                    self.assertLessEqual(len(text), 1000)
                    self.assertLessEqual(len(edits.edited(text, edit)), 1000)
                    self.assertIs(in_time(self, judge, ground, order, (text, edit)), True)
                    in_time(self, judge, ground, order, (text * 2, edit))

    def test_a_rule_of_4096_words(self):
        for order in some_orders(Ground("ab", 3), 60):
            ahead, behind = edits.least_look(Ground("ab", 3), order)
            if ahead + behind == 12:
                words, at = in_time(self, edits.least_rule, Ground("ab", 3), order)
                self.assertEqual((len(words[0]), at), (12, ahead))
                return
        self.fail("no order looks so far")


class Likeness(unittest.TestCase):
    def test_two_orders(self):
        for ground in MIDDLE:
            for one, other in itertools.product(some_orders(ground, 3), repeat=2):
                found = in_time(self, likeness.parting_text, ground, one, other)
                self.assertIs(in_time(self, likeness.cut_alike, ground, one, other), found is None)
                self.assertIs(in_time(self, likeness.is_parting_text, ground, one, other, found), found is not None)
                if found:
                    self.assertLessEqual(len(found[0]), 1000)

    def test_lists(self):
        for ground in MIDDLE:
            for order in some_orders(ground, 3):
                in_time(self, likeness.idle_windows, ground, order)
                row = in_time(self, likeness.least_list, ground, order)
                for text in texts_of_120(ground.signs()):
                    in_time(self, likeness.cuts_by_list, ground, row, text)
                    in_time(self, likeness.cuts_by_list, ground, row[::2], text)


def full_history(ground, seed, repeated=False):
    """A history of 12 names with 8 versions each, of 120 signs; or such of texts that repeat themselves."""
    if repeated:
        return {name: [(REPEATED[(at + k) % 7] + "ab" * at)[at:][:120] for k in range(8)] for at, name in enumerate(NAMES)}
    return {name: [some_text(ground.signs(), 120, seed + 8 * at + k) for k in range(8)] for at, name in enumerate(NAMES)}


def some_words(ground):
    """60 words that may be kept."""
    return [some_text(ground.signs(), 1 + at % (2 * ground.gap() - 1), at) for at in range(60)]


class Stores(unittest.TestCase):
    def full(self):
        for ground in GREAT:
            for order in some_orders(ground, 2)[1:]:
                for repeated in (False, True):
                    history = full_history(ground, 0, repeated)
                    yield in_time(self, store.store_of, ground, order, history, some_words(ground))

    def test_full_stores(self):
        for full in self.full():
            ground = full.ground()
            self.assertEqual(len(in_time(self, store.names, full)), 12)
            self.assertTrue(in_time(self, store.is_history, ground, full.history()))
            in_time(self, store.unused, full)
            in_time(self, store.swept, full)
            in_time(self, store.sizes, full)
            for name in NAMES[:2]:
                in_time(self, store.versions, full, name)
                in_time(self, store.edits_of, full, name)
                in_time(self, store.called, full, name, "other")
                in_time(self, store.recipe, full, name, 7)
                in_time(self, store.text_in, full, name, 7)
                late = in_time(self, store.drop, full, name, 3)
                self.assertIs(in_time(self, late.__eq__, full), False)
                in_time(self, store.put, late, name, some_text(ground.signs(), 120, 5))
            in_time(self, store.new_pieces, full, some_text(ground.signs(), 120, 500))
            for word in full.kept()[::50]:
                in_time(self, store.uses, full, word)

    def test_two_full_stores(self):
        for full in self.full():
            ground, order = full.ground(), full.order()
            other = store.store_of(ground, order, full_history(ground, 1000, True), some_words(ground))
            for name, number in (("a", 0), ("abcdefgh", 7)):
                in_time(self, meeting.lacking, full, other, name, number)
                parcel = in_time(self, meeting.parcel_for, full, other, name, number)
                many = in_time(self, meeting.fewest_items, full, other, name, number)
                self.assertTrue(in_time(self, meeting.is_parcel_for, full, other, name, number, parcel))
                found = in_time(self, meeting.bars, full, other, name, number)
                self.assertEqual(len(found), many - 1)
                self.assertTrue(in_time(self, meeting.are_bars, full, other, name, number, found))
                in_time(self, meeting.told_by, other, parcel)
                in_time(self, meeting.unpacked, other, "x", parcel)
            in_time(self, meeting.same_texts, full, other)
            for late in (other, Store(ground, order), full):
                sent = in_time(self, meeting.catch_up, full, late)
                now = in_time(self, meeting.caught_up, late, sent)
                self.assertEqual(meeting.catch_up(full, now), [])

    def test_parcels_of_40_items(self):
        ground, order = GREAT[0], orders.plain_order(GREAT[0])
        full = store.put(Store(ground, order), "a", some_text("ab", 120))
        many = len(store.recipe(full, "a", 0))
        for items in ([("copy", "a", 0, 0, many)] * 40, [("piece", at % 9) for at in range(40)]):
            self.assertTrue(in_time(self, meeting.is_parcel, full, ([], items)))
            self.assertEqual(len(in_time(self, meeting.told_by, full, ([], items))), 40 * (many if items[0][0] == "copy" else 1))
            in_time(self, meeting.unpacked, full, "a", ([], items))


class Desks(unittest.TestCase):
    def test_60_commands(self):
        for ground in GREAT:
            one = Desk(ground, orders.plain_order(ground))
            for at in range(60):
                text = some_text(ground.signs(), 120, at)
                if at < 12:
                    in_time(self, one.put, NAMES[at], text)
                elif at % 5 == 4:
                    in_time(self, one.drop, NAMES[at % 12], one.versions(NAMES[at % 12])[-1])
                elif one.versions(NAMES[at % 12]):
                    edit = (at, 3, "ab")
                    in_time(self, one.change, NAMES[at % 12], edit)
                else:
                    in_time(self, one.sweep)
            record = in_time(self, one.record)
            self.assertEqual(len(record), 60)
            late = in_time(self, desk.replayed, Desk(ground, one.store().order()), record)
            self.assertEqual(late.store(), one.store())
            in_time(self, one.unused)
            for _ in range(60):
                in_time(self, one.undo)
            for _ in range(60):
                in_time(self, one.redo)
            self.assertEqual(late.store(), in_time(self, one.copy).store())
            other = Desk(ground, one.store().order())
            sent = in_time(self, one.newer, other.store())
            self.assertEqual(in_time(self, other.take, sent), len(sent))

    def test_blocks_10_deep(self):
        one = Desk(GREAT[0], orders.plain_order(GREAT[0]))

        def deeper(given, deep):
            given.put("a", "ab" * deep)
            if deep < 10:
                given.attempt(lambda late: deeper(late, deep + 1))

        in_time(self, one.attempt, lambda given: deeper(given, 1))
        self.assertEqual(one.names(), [])

    def test_scripts(self):
        for ground in GREAT:
            order, other = some_orders(ground, 2)
            deep = [("put", "a", some_text(ground.signs(), 120, 3))]
            for _ in range(4):
                deep = [("try", deep), ("put", "b", some_text(ground.signs(), 120, len(deep)))]
            script = [("put", "a", some_text(ground.signs(), 120, at)) for at in range(3)] + deep + [("undo",), ("drop", "a", HUGE)]
            in_time(self, scripts.play, Desk(ground, order), script)
            in_time(self, scripts.end_of, ground, order, script)
            in_time(self, scripts.shortened, ground, order, script)
            in_time(self, scripts.shortened, ground, order, [("put", "a", some_text(ground.signs(), 120, at)) for at in range(12)])
            in_time(self, scripts.alike, ground, order, script, script)
            in_time(self, scripts.first_unlike, ground, order, other, script)
            in_time(self, scripts.fewest_kept, ground, [order, other] * 6, script)

    def test_arguments_nested_40_deep(self):
        one = Desk(Ground("ab", 2), ["ab", "ba"])
        script = []
        thing = []
        for _ in range(19):
            script = [("try", script)]
            thing = [(thing,)]
        self.assertEqual(len(in_time(self, scripts.play, one, script)), 1)
        for value in (thing, [("try", thing)], {"a": thing}, (thing,)):
            with self.assertRaises(scripts.InvalidScript):
                scripts.play(one, value)
            self.assertIs(in_time(self, store.is_history, Ground("ab", 2), value), False)
            self.assertIs(in_time(self, meeting.is_parcel, one.store(), value), False)


class Papers(unittest.TestCase):
    def test_papers(self):
        for ground in (Ground("abc", 3), Ground("ab", 4), Ground("abcdefghijkl", 2), *GREAT):
            order = orders.plain_order(ground)
            text = in_time(self, papers.order_text, ground, order)
            self.assertEqual(in_time(self, papers.read_order, text), (ground, order))
            rows = rounds.rounds_of(ground, order)
            text = in_time(self, papers.rounds_text, ground, rows)
            self.assertEqual(in_time(self, papers.read_rounds, text), (ground, rows))

    def test_papers_of_a_gap_of_60(self):
        for ground in (WIDEST, Ground("ab", 60)):
            self.assertEqual(in_time(self, papers.read_ground, in_time(self, papers.ground_text, ground)), ground)
            told = ("a", "a" * 58 + "b", HUGE, "a" * 50, "b")
            for row in ([told] * 60, [("b" * 119,), told] * 30):
                self.assertEqual(in_time(self, papers.read_row, in_time(self, papers.row_text, ground, row)), (ground, row))
            rule = (sorted({some_text("ab", 8, seed) for seed in range(4096)}), 8)
            self.assertEqual(in_time(self, papers.read_rule, in_time(self, papers.rule_text, ground, rule)), (ground, rule))

    def test_papers_of_stores(self):
        for ground, order in ((Ground("ab", 3), some_orders(Ground("ab", 3), 2)[1]), (Ground(LETTERS, 2), orders.plain_order(Ground(LETTERS, 2)))):
            for version in ("a" + "b" * 998 + "a", some_text("ab", 1000), "ab" * 500, "abb" * 333, "aab" * 40 + "b" * 800):
                full = store.put(store.store_of(ground, order, {"a": [None, ""]}, some_words(ground)), "b", version)
                text = in_time(self, papers.store_text, full)
                self.assertEqual(in_time(self, papers.read_store, text), full)
            full = store.store_of(ground, order, full_history(ground, 0, True), [])
            self.assertEqual(in_time(self, papers.read_store, in_time(self, papers.store_text, full)), full)

    def test_250_lines_of_400_signs_that_no_writer_makes(self):
        readers = [papers.read_ground, papers.read_order, papers.read_rounds, papers.read_row, papers.read_rule, papers.read_store]
        for line in ("a" * 400, "9" * 400, "ground ab " + "9" * 390, "window " + "ab" * 196, "long a b " + "9" * 380 + " - a", "kept 0",
                     "name a", "version " + "9" * 392, "dropped", " " * 400, "short a", "long a b " + "9" * 12 + " - a"):
            for first in ("", "ground ab 2\n", "ground ab " + "9" * 30 + "\n", "ground ab 60\n"):
                for reader in readers:
                    text = first + (line + "\n") * 249
                    # A list of short words is what one of them tells.
                    if not (reader == papers.read_row and first and line.startswith(("short", "long"))):
                        with self.assertRaises(papers.InvalidPaper):
                            in_time(self, reader, text)


if __name__ == "__main__":
    unittest.main()
