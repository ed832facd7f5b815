"""The examples of the document, as they stand there."""

import ast
import unittest

WORDS_AND_PERIODS = '''
from owncuts.periods import borders, has_period, is_two_period_word, least_period, many_primitives, meeting_length, periods, root, stretches, two_period_word
[periods("abaab"), has_period("abaab", 5), least_period("abab"), borders("abaab"), root("ababab"), many_primitives(2, 4)]
# [[3], False, 2, [2], ('ab', 3), 12]
[meeting_length(2, 3), is_two_period_word(2, 3, two_period_word(2, 3)), two_period_word(2, 4), stretches("aababab", 3, 4)]
# [4, True, None, [(1, 6, 2)]]
'''

GROUNDS_AND_WINDOWS = '''
from owncuts.grounds import Ground, are_near, distances, is_near_text, is_own, many_own, next_ones, own_windows, lone_rings
ground = Ground("ab", 3)
[ground.width(), many_own(ground), len(own_windows(ground)), is_own(ground, "aaab"), is_own(ground, "abab"), many_own(Ground("abc", 3))]
# [4, 12, 12, True, False, 72]
[distances(ground, "aabb", "abba"), are_near(ground, "bbaa", "aabb"), is_near_text(ground, "aabb", "abba", ("aabba", 0, 1)), next_ones(ground, "abab"), lone_rings(ground)]
# [[1], True, True, ['baba', 'babb'], [['aaaa'], ['abab', 'baba'], ['bbbb']]]
'''

ORDERS = '''
from owncuts.grounds import Ground
from owncuts.orders import depths, falling_path, greatest_depth, is_falling_path, plain_order, rank_of, mirrored_order
pairs = Ground("abc", 2)
order = plain_order(pairs)
[order, depths(pairs, order), greatest_depth(pairs, order), rank_of(pairs, order, "bc")]
# [['ab', 'ac', 'ba', 'bc', 'ca', 'cb'], {'ab': 1, 'ac': 1, 'ba': 2, 'bc': 2, 'ca': 3, 'cb': 3}, 3, 3]
[is_falling_path(pairs, order, ["ca", "bc", "ab"]), len(falling_path(pairs, order)), mirrored_order(pairs, order)]
# [True, 3, ['ba', 'ca', 'ab', 'cb', 'ac', 'bc']]
'''

ROUNDS = '''
from owncuts.grounds import Ground
from owncuts.orders import plain_order
from owncuts.rounds import are_fewest, least_rounds, order_of, rounds_by, rounds_for, rounds_of, sets_of, signs_for
pairs = Ground("abc", 2)
rounds = rounds_of(pairs, plain_order(pairs))
[rounds, least_rounds(pairs), are_fewest(pairs, rounds), order_of(pairs, rounds) == plain_order(pairs), sets_of(pairs, rounds)]
# [[['ab', 'ac'], ['ba', 'bc'], ['ca', 'cb']], 3, True, True, {'a': [0], 'b': [1], 'c': [2]}]
[rounds_by(pairs, 3, {"a": [0], "b": [1], "c": [2]}) == rounds, signs_for(4), rounds_for(6), rounds_for(7), rounds_for(256), least_rounds(Ground("ab", 3))]
# [True, 6, 4, 5, 11, 5]
'''

CUTS = '''
from owncuts.cuts import asked_for, barred_by, cuts, inner_cuts, is_order_for, order_for, own_places, settled, window_at
from owncuts.grounds import Ground
from owncuts.orders import plain_order
pairs = Ground("abc", 2)
order = plain_order(pairs)
[own_places(pairs, "aabca"), cuts(pairs, order, "aabca"), inner_cuts(pairs, order, "bca"), cuts(pairs, order, "bca"), window_at(pairs, "aabca", -7)]
# [[2, 3, 4], [2, 4], [2], [0, 2], 'aa']
[barred_by(pairs, order, "aabca", 3), settled(pairs, order, "aabca"), asked_for(pairs, order, "aabca", 4), order_for(pairs, "aabca", [2]), is_order_for(pairs, "aabca", [3], ["bc", "ab", "ac", "ba", "ca", "cb"])]
# [2, {2: 1, 3: 2, 4: 3}, [2, 3, 4], None, True]
'''

PIECES = '''
from owncuts.grounds import Ground
from owncuts.orders import plain_order
from owncuts.pieces import cut_at, holding, is_long, is_told, is_told_text, joined, pieces, places_between, retold, size_of, sure_cuts, sure_pieces, told_again, told_of, told_text, turn_of, word_of
three = Ground("abc", 2)
order = plain_order(three)
[pieces(three, order, "abcabcaacba"), cut_at("abcab", [1, 3]), joined(["a", "bc"]), places_between(["a", "bc", "b"]), holding(three, order, "abcabcaacba", 5)]
# [['a', 'bca', 'bc', 'aa', 'cb', 'a'], ['a', 'bc', 'ab'], 'abc', [1, 3], (2, 4, 6)]
[sure_cuts(three, "aabbab"), sure_pieces(three, "aabbab"), sure_pieces(three, "bbaabb"), sure_cuts(Ground("ab", 3), "aabbab")]
# [[2], [(0, 2)], [(0, 2), (2, 4), (4, 6)], []]
wide = Ground("ab", 3)
[is_long(wide, "abbbba"), turn_of(wide, "abababb"), told_of(wide, "abababb"), told_of(wide, "abba"), word_of(wide, ("a", "ab", 2, "", "b")), is_told(wide, ("a", "ab", 2, "ab", "b"))]
# [True, 'ba', ('a', 'ba', 2, 'b', 'b'), ('abba',), 'aababb', False]
row = told_text(wide, plain_order(wide), "aabbbbbaa")
[row, size_of(wide, row), retold(wide, plain_order(wide), "aabbbbbaa", 1, 7), retold(wide, plain_order(wide), "aabbbbbaa", 1, 4)]
# [[('a',), ('a', 'b', 5, '', 'a'), ('a',)], 6, 'aabbbbbbbaa', 'aabbbbaa']
[told_again(wide, plain_order(wide), [("b", "ab", 10 ** 20, "a", "a"), ("b", "a", 7, "", "b")]), is_told_text(wide, plain_order(wide), [("a",), ("a", "b", 10 ** 20, "", "a"), ("a",)])]
# [[('b', 'ab', 100000000000000000000, 'a', 'a'), ('b', 'a', 5, '', 'a'), ('ab',)], True]
'''

RULES = '''
from owncuts.grounds import Ground
from owncuts.rules import blind_text, is_apart, is_blind_text, is_missed, is_near_marks, is_whole, markable, marks, missed, reach, rule_of
two = Ground("ab", 2)
rule = rule_of(two, ["ab", "ba"])
[reach(two, ["ab", "ba"]), rule, marks(two, rule, "abba"), is_apart(two, rule), is_whole(two, rule), missed(two, rule)]
# [2, (['aaba', 'aabb', 'baba', 'babb', 'bbaa'], 2), [1, 3], True, True, None]
[is_near_marks(two, (["ab", "ba"], 1), ("aba", 1, 2)), is_missed(two, (["ab"], 1), ("abba", 3)), markable(Ground("ab", 3), 4, 2, "aabbab")]
# [True, True, [1, 2, 3, 4, 6]]
[blind_text(two, 2, 3), is_blind_text(Ground("ab", 4), 4, 8, "abaabaababab"), is_whole(two, (["aabb", "abaa", "abab", "bbaa", "bbab"], 2)), is_whole(two, (["ab"], 1))]
# [None, True, True, False]
'''

RINGS = '''
from owncuts.grounds import Ground
from owncuts.orders import plain_order
from owncuts.rings import is_ring_order_for, ring_cuts, ring_order_for, ring_pieces, ring_windows, rotated, rotations_to, sure_part, unrolled
three = Ground("abc", 2)
order = plain_order(three)
[ring_cuts(three, order, "abcab"), ring_pieces(three, order, "abcab"), rotated("abcab", 7), rotations_to("abab", "baba"), unrolled("abc", 2), sure_part(three, order, "abc", 3)]
# [[1, 4], ['bca', 'ba'], 'cabab', [1, 3], 'abcabc', (3, 6)]
wide = Ground("ab", 3)
[ring_windows(wide, "aab"), ring_cuts(wide, plain_order(wide), "aab"), ring_pieces(wide, plain_order(wide), "aab"), ring_cuts(wide, plain_order(wide), "abab")]
# [['abaa', 'baab', 'aaba'], [2], ['baa'], []]
[ring_order_for(three, "abab", [1]), is_ring_order_for(three, "abcb", [0, 2], ["ba", "ab", "bc", "cb", "ac", "ca"]), is_ring_order_for(three, "abcb", [0, 2], order)]
# [None, True, False]
'''

VIEWS = '''
from owncuts.grounds import Ground
from owncuts.views import fates, fates_begun, heights, is_text_with_cut, next_views, tolls, twins, view_at, views
two = Ground("ab", 2)
order = ["ab", "ba"]
[len(views(two, order)), view_at(two, order, "bba", 0), next_views(two, order, ("bba", (2,))), fates(two, order, "abba"), fates_begun(two, order, "bba"), is_text_with_cut(two, order, "abba", 3, ("abba", 0))]
# [10, ('bba', (2,)), [('baa', (1,))], ['bare', 'cut', 'bare', 'open', 'open'], ['cut', 'bare', 'open', 'open'], True]
[twins(two, order), tolls(two, order)]
# [[('bba', (), (2,)), ('bba', (2,), ())], {('bba', (), (2,)): 0, ('bba', (2,), ()): 1}]
three = Ground("abc", 2)
plain = ["ab", "ac", "ba", "bc", "ca", "cb"]
[len(views(three, plain)), len(twins(three, plain)), heights(three, plain)[("bcb", (), (2,))], tolls(three, plain)[("bcb", (), (2,))], tolls(three, plain)[("cba", (1,), (2,))]]
# [40, 14, 1, 1, 0]
'''

EDITS = '''
from owncuts.grounds import Ground
from owncuts.edits import alike_pieces, changed_cuts, edit_back, edit_between, edited, farthest, farthest_edit, is_farthest_edit, is_worst_edit, least_look, least_rule, most_new, new_spans, spans, worst_edit
three = Ground("abc", 2)
plain = ["ab", "ac", "ba", "bc", "ca", "cb"]
[edited("abcab", (1, 2, "cc")), edit_back("abcab", (1, 2, "cc")), edit_between("abcab", "accab"), spans(three, plain, "bcbab")]
# ['accab', (1, 2, 'bc'), (1, 1, 'c'), [(0, 2), (2, 4)]]
[changed_cuts(three, plain, "bcba", (4, 0, "b")), new_spans(three, plain, "bcba", (4, 0, "b")), farthest(three, plain), most_new(three, plain), is_worst_edit(three, plain, worst_edit(three, plain)), alike_pieces(three, plain, "abcabba", "abcabcaacba")]
# [([0, 1, 2], []), ([(0, 2), (2, 4)], []), (2, 2), (2, 2), True, (2, 1)]
odd = ["ab", "ca", "ba", "bc", "cb", "ac"]
[farthest(three, odd), least_look(three, odd), most_new(three, odd), is_farthest_edit(three, odd, farthest_edit(three, odd)), is_worst_edit(Ground("ab", 2), ["ab", "ba"], ("bbaabaab", (3, 1, "b")))]
# [(4, 2), (3, 5), (3, 2), True, True]
least_rule(Ground("ab", 2), ["ab", "ba"])
# (['aaba', 'aabb', 'baba', 'babb', 'bbaa'], 2)
'''

LIKENESS = '''
from owncuts.grounds import Ground
from owncuts.likeness import cut_alike, cuts_by_list, idle_windows, is_parting_text, least_list, parting_text
from owncuts.orders import plain_order
three = Ground("abc", 2)
plain = plain_order(three)
[cut_alike(three, plain, ["ac", "ab", "ba", "bc", "ca", "cb"]), cut_alike(three, plain, ["ba", "ab", "ac", "bc", "ca", "cb"]), parting_text(three, plain, plain), is_parting_text(three, plain, ["ba", "ab", "ac", "bc", "ca", "cb"], ("aaba", 2)), cuts_by_list(three, ["bc"], "abcabc")]
# [True, False, None, True, [2, 5]]
twos = Ground("ab", 3)
[idle_windows(twos, plain_order(twos)), len(least_list(twos, plain_order(twos))), idle_windows(three, plain)]
# [['baab', 'babb'], 10, []]
'''

A_STORE = '''
from owncuts.grounds import Ground
from owncuts.store import Store, called, drop, edits_of, names, new_pieces, put, recipe, sizes, swept, text_in, unused, uses, versions
three = Ground("abc", 2)
plain = ["ab", "ac", "ba", "bc", "ca", "cb"]
store = put(put(Store(three, plain), "notes", "abcabcaacba"), "notes", "abcabcabcaacba")
[store.kept(), recipe(store, "notes", 1), new_pieces(store, "abcabba"), uses(store, "bca"), sizes(store), edits_of(store, "notes")]
# [['a', 'aa', 'bc', 'bca', 'cb'], [0, 3, 3, 2, 1, 4, 0], ['bb'], [('notes', 0), ('notes', 1)], (25, 10), [(7, 0, 'bca')]]
later = put(drop(store, "notes", 0), "long", "bbbbbbbbbbca")
[later.history(), versions(later, "notes"), unused(later), later.kept() == put(swept(later), "notes", "abc").kept(), sizes(swept(drop(later, "notes", 1))), names(called(later, "notes", "old"))]
# [{'long': ['bbbbbbbbbbca'], 'notes': [None, 'abcabcabcaacba']}, [1], [], True, (12, 6), ['long', 'old']]
'''

TWO_STORES = '''
from owncuts.grounds import Ground
from owncuts.meeting import are_bars, bars, catch_up, caught_up, fewest_items, is_parcel_for, lacking, parcel_for, same_texts, told_by, unpacked
from owncuts.store import Store, put, text_in
three = Ground("abc", 2)
plain = ["ab", "ac", "ba", "bc", "ca", "cb"]
mine = put(Store(three, plain), "notes", "abcabcaacba")
yours = put(mine, "log", "abcabba")
[lacking(yours, mine, "log", 0), fewest_items(yours, mine, "log", 0), len(bars(yours, mine, "log", 0)), are_bars(yours, mine, "log", 0, [(1, 2), (2, 3)]), is_parcel_for(yours, mine, "log", 0, (["bb"], [("copy", "notes", 0, 0, 2), ("piece", 2), ("piece", 0)]))]
# [['bb'], 3, 2, True, True]
[text_in(unpacked(mine, "log", parcel_for(yours, mine, "log", 0)), "log", 0), same_texts(yours, mine), same_texts(yours, caught_up(mine, catch_up(yours, mine))), catch_up(mine, yours)]
# ['abcabba', False, True, []]
'''

A_DESK = '''
from owncuts.desk import Desk, replayed
from owncuts.grounds import Ground
three = Ground("abc", 2)
plain = ["ab", "ac", "ba", "bc", "ca", "cb"]
desk = Desk(three, plain)
[desk.put("notes", "abcabcaacba"), desk.change("notes", (7, 0, "bca")), desk.touched("notes"), desk.change("notes", (0, 3, "")), desk.text_in("notes", 2)]
# [(0, ['a', 'aa', 'bc', 'bca', 'cb']), (1, []), (['a', 'aa', 'bc', 'bca', 'cb'], []), (2, []), 'abcabcaacba']
[desk.drop("notes", 1), desk.sweep(), desk.undo(), desk.versions("notes"), desk.call("notes", "old"), desk.names(), desk.undo(), len(desk.record())]
# [None, [], None, [0, 2], None, ['old'], None, 4]
other = Desk(three, plain)
[other.put("log", "abcabba"), other.take(desk.newer(other.store())), other.text_in("notes", 0), desk.newer(other.store()), replayed(Desk(three, plain), desk.record()).store() == desk.store()]
# [(0, ['a', 'bb', 'bca']), 1, 'abcabcaacba', [], True]
'''

SCRIPTS = '''
from owncuts.desk import Desk
from owncuts.grounds import Ground
from owncuts.scripts import alike, end_of, play, shortened
three = Ground("abc", 2)
plain = ["ab", "ac", "ba", "bc", "ca", "cb"]
script = [("put", "a", "abab"), ("put", "a", "abba"), ("drop", "a", 0), ("undo",), ("try", [("put", "b", "a")]), ("text_in", "a", 1), ("drop", "a", 2)]
play(Desk(three, plain), script)
# [('told', (0, ['a', 'b', 'ba'])), ('told', (1, ['bb'])), ('done',), ('done',), ('tried', [('told', (0, []))]), ('told', 'abba'), ('refused', 'InvalidNumber')]
[end_of(three, plain, script).history(), shortened(three, plain, script), alike(three, plain, script, script[:2])]
# [{'a': ['abab', 'abba']}, [('put', 'a', 'abab'), ('put', 'a', 'abba'), ('drop', 'a', 0), ('undo',)], True]
'''

TEXTS = r'''
from owncuts.grounds import Ground
from owncuts.papers import ground_text, order_text, read_ground, read_row, row_text, rule_text, store_text
from owncuts.store import Store, put
two = Ground("ab", 2)
[ground_text(two), order_text(two, ["ba", "ab"]), rule_text(two, (["ab"], 1)), read_ground("ground ab 2\n") == two]
# ['ground ab 2\n', 'ground ab 2\nwindow ba\nwindow ab\n', 'ground ab 2\nrule 1\nword ab\n', True]
[row_text(two, [("a",), ("a", "b", 4, "", "a")]), read_row("ground ab 2\nshort b\n")[1], store_text(put(Store(two, ["ab", "ba"]), "notes", "abba"))]
# ['ground ab 2\nshort a\nlong a b 4 - a\n', [('b',)], 'ground ab 2\nwindow ab\nwindow ba\nname notes\nversion 3\nshort a\nshort bb\nshort a\nkept 0\n']
'''


class Examples(unittest.TestCase):
    def check(self, block, many):
        """Each line below which a comment stands gives what the comment tells."""
        names = {}
        lines = block.strip().split("\n")
        told = 0
        for line, behind in zip(lines, lines[1:] + [""]):
            if behind.startswith("# "):
                found = eval(line, names)
                self.assertEqual(repr(found), repr(ast.literal_eval(behind[2:])), line)
                told += 1
            elif not line.startswith("# "):
                exec(line, names)
        self.assertEqual(told, many)

    def test_words_and_periods(self):
        self.check(WORDS_AND_PERIODS, 2)

    def test_grounds_and_windows(self):
        self.check(GROUNDS_AND_WINDOWS, 2)

    def test_orders(self):
        self.check(ORDERS, 2)

    def test_rounds(self):
        self.check(ROUNDS, 2)

    def test_cuts(self):
        self.check(CUTS, 2)

    def test_pieces(self):
        self.check(PIECES, 5)

    def test_rules(self):
        self.check(RULES, 3)

    def test_rings(self):
        self.check(RINGS, 3)

    def test_views(self):
        self.check(VIEWS, 3)

    def test_edits(self):
        self.check(EDITS, 4)

    def test_likeness(self):
        self.check(LIKENESS, 2)

    def test_a_store(self):
        self.check(A_STORE, 2)

    def test_two_stores(self):
        self.check(TWO_STORES, 2)

    def test_a_desk(self):
        self.check(A_DESK, 3)

    def test_scripts(self):
        self.check(SCRIPTS, 2)

    def test_texts(self):
        self.check(TEXTS, 2)


if __name__ == "__main__":
    unittest.main()
