"""The examples of the document, as they stand there."""

import ast
import unittest

WORDS_AND_PERIODS = '''
from owncuts.periods import borders, has_period, is_two_period_word, least_period, many_primitives, meeting_length, periods, root, stretches, two_period_word
[periods("abaab"), has_period("abaab", 5), least_period("abab"), borders("abaab"), root("ababab"), many_primitives(2, 4)]
# [[3], False, 2, [2], ('ab', 3), 12]
[meeting_length(2, 3), is_two_period_word(2, 3, two_period_word(2, 3)), two_period_word(2, 4), stretches("aababab", 3, 4)]
# [4, True, None, [(1, 6, 2)]]
'''

GROUNDS_AND_WINDOWS = '''
from owncuts.grounds import Ground, are_near, distances, is_near_text, is_own, many_own, next_ones, own_windows, lone_rings
ground = Ground("ab", 3)
[ground.width(), many_own(ground), len(own_windows(ground)), is_own(ground, "aaab"), is_own(ground, "abab"), many_own(Ground("abc", 3))]
# [4, 12, 12, True, False, 72]
[distances(ground, "aabb", "abba"), are_near(ground, "bbaa", "aabb"), is_near_text(ground, "aabb", "abba", ("aabba", 0, 1)), next_ones(ground, "abab"), lone_rings(ground)]
# [[1], True, True, ['baba', 'babb'], [['aaaa'], ['abab', 'baba'], ['bbbb']]]
'''

ORDERS = '''
from owncuts.grounds import Ground
from owncuts.orders import depths, falling_path, greatest_depth, is_falling_path, plain_order, rank_of, mirrored_order
pairs = Ground("abc", 2)
order = plain_order(pairs)
[order, depths(pairs, order), greatest_depth(pairs, order), rank_of(pairs, order, "bc")]
# [['ab', 'ac', 'ba', 'bc', 'ca', 'cb'], {'ab': 1, 'ac': 1, 'ba': 2, 'bc': 2, 'ca': 3, 'cb': 3}, 3, 3]
[is_falling_path(pairs, order, ["ca", "bc", "ab"]), len(falling_path(pairs, order)), mirrored_order(pairs, order)]
# [True, 3, ['ba', 'ca', 'ab', 'cb', 'ac', 'bc']]
'''

ROUNDS = '''
from owncuts.grounds import Ground
from owncuts.orders import plain_order
from owncuts.rounds import are_fewest, least_rounds, order_of, rounds_by, rounds_for, rounds_of, sets_of, signs_for
pairs = Ground("abc", 2)
rounds = rounds_of(pairs, plain_order(pairs))
[rounds, least_rounds(pairs), are_fewest(pairs, rounds), order_of(pairs, rounds) == plain_order(pairs), sets_of(pairs, rounds)]
# [[['ab', 'ac'], ['ba', 'bc'], ['ca', 'cb']], 3, True, True, {'a': [0], 'b': [1], 'c': [2]}]
[rounds_by(pairs, 3, {"a": [0], "b": [1], "c": [2]}) == rounds, signs_for(4), rounds_for(6), rounds_for(7), rounds_for(256), least_rounds(Ground("ab", 3))]
# [True, 6, 4, 5, 11, 5]
'''

CUTS = '''
from owncuts.cuts import asked_for, barred_by, cuts, inner_cuts, is_order_for, order_for, own_places, settled, window_at
from owncuts.grounds import Ground
from owncuts.orders import plain_order
pairs = Ground("abc", 2)
order = plain_order(pairs)
[own_places(pairs, "aabca"), cuts(pairs, order, "aabca"), inner_cuts(pairs, order, "bca"), cuts(pairs, order, "bca"), window_at(pairs, "aabca", -7)]
# [[2, 3, 4], [2, 4], [2], [0, 2], 'aa']
[barred_by(pairs, order, "aabca", 3), settled(pairs, order, "aabca"), asked_for(pairs, order, "aabca", 4), order_for(pairs, "aabca", [2]), is_order_for(pairs, "aabca", [3], ["bc", "ab", "ac", "ba", "ca", "cb"])]
# [2, {2: 1, 3: 2, 4: 3}, [2, 3, 4], None, True]
'''

PIECES = '''
from owncuts.grounds import Ground
from owncuts.orders import plain_order
from owncuts.pieces import cut_at, holding, is_long, is_told, is_told_text, joined, pieces, places_between, retold, size_of, sure_cuts, sure_pieces, told_again, told_of, told_text, turn_of, word_of
three = Ground("abc", 2)
order = plain_order(three)
[pieces(three, order, "abcabcaacba"), cut_at("abcab", [1, 3]), joined(["a", "bc"]), places_between(["a", "bc", "b"]), holding(three, order, "abcabcaacba", 5)]
# [['a', 'bca', 'bc', 'aa', 'cb', 'a'], ['a', 'bc', 'ab'], 'abc', [1, 3], (2, 4, 6)]
[sure_cuts(three, "aabbab"), sure_pieces(three, "aabbab"), sure_pieces(three, "bbaabb"), sure_cuts(Ground("ab", 3), "aabbab")]
# [[2], [(0, 2)], [(0, 2), (2, 4), (4, 6)], []]
wide = Ground("ab", 3)
[is_long(wide, "abbbba"), turn_of(wide, "abababb"), told_of(wide, "abababb"), told_of(wide, "abba"), word_of(wide, ("a", "ab", 2, "", "b")), is_told(wide, ("a", "ab", 2, "ab", "b"))]
# [True, 'ba', ('a', 'ba', 2, 'b', 'b'), ('abba',), 'aababb', False]
row = told_text(wide, plain_order(wide), "aabbbbbaa")
[row, size_of(wide, row), retold(wide, plain_order(wide), "aabbbbbaa", 1, 7), retold(wide, plain_order(wide), "aabbbbbaa", 1, 4)]
# [[('a',), ('a', 'b', 5, '', 'a'), ('a',)], 6, 'aabbbbbbbaa', 'aabbbbaa']
[told_again(wide, plain_order(wide), [("b", "ab", 10 ** 20, "a", "a"), ("b", "a", 7, "", "b")]), is_told_text(wide, plain_order(wide), [("a",), ("a", "b", 10 ** 20, "", "a"), ("a",)])]
# [[('b', 'ab', 100000000000000000000, 'a', 'a'), ('b', 'a', 5, '', 'a'), ('ab',)], True]
'''

RULES = '''
from owncuts.grounds import Ground
from owncuts.rules import blind_text, is_apart, is_blind_text, is_missed, is_near_marks, is_whole, markable, marks, missed, reach, rule_of
two = Ground("ab", 2)
rule = rule_of(two, ["ab", "ba"])
[reach(two, ["ab", "ba"]), rule, marks(two, rule, "abba"), is_apart(two, rule), is_whole(two, rule), missed(two, rule)]
# [2, (['aaba', 'aabb', 'baba', 'babb', 'bbaa'], 2), [1, 3], True, True, None]
[is_near_marks(two, (["ab", "ba"], 1), ("aba", 1, 2)), is_missed(two, (["ab"], 1), ("abba", 3)), markable(Ground("ab", 3), 4, 2, "aabbab")]
# [True, True, [1, 2, 3, 4, 6]]
[blind_text(two, 2, 3), is_blind_text(Ground("ab", 4), 4, 8, "abaabaababab"), is_whole(two, (["aabb", "abaa", "abab", "bbaa", "bbab"], 2)), is_whole(two, (["ab"], 1))]
# [None, True, True, False]
'''

RINGS = '''
from owncuts.grounds import Ground
from owncuts.orders import plain_order
from owncuts.rings import is_ring_order_for, ring_cuts, ring_order_for, ring_pieces, ring_windows, rotated, rotations_to, sure_part, unrolled
three = Ground("abc", 2)
order = plain_order(three)
[ring_cuts(three, order, "abcab"), ring_pieces(three, order, "abcab"), rotated("abcab", 7), rotations_to("abab", "baba"), unrolled("abc", 2), sure_part(three, order, "abc", 3)]
# [[1, 4], ['bca', 'ba'], 'cabab', [1, 3], 'abcabc', (3, 6)]
wide = Ground("ab", 3)
[ring_windows(wide, "aab"), ring_cuts(wide, plain_order(wide), "aab"), ring_pieces(wide, plain_order(wide), "aab"), ring_cuts(wide, plain_order(wide), "abab")]
# [['abaa', 'baab', 'aaba'], [2], ['baa'], []]
[ring_order_for(three, "abab", [1]), is_ring_order_for(three, "abcb", [0, 2], ["ba", "ab", "bc", "cb", "ac", "ca"]), is_ring_order_for(three, "abcb", [0, 2], order)]
# [None, True, False]
'''

VIEWS = '''
from owncuts.grounds import Ground
from owncuts.views import fates, fates_begun, heights, is_text_with_cut, next_views, tolls, twins, view_at, views
two = Ground("ab", 2)
order = ["ab", "ba"]
[len(views(two, order)), view_at(two, order, "bba", 0), next_views(two, order, ("bba", (2,))), fates(two, order, "abba"), fates_begun(two, order, "bba"), is_text_with_cut(two, order, "abba", 3, ("abba", 0))]
# [10, ('bba', (2,)), [('baa', (1,))], ['bare', 'cut', 'bare', 'open', 'open'], ['cut', 'bare', 'open', 'open'], True]
[twins(two, order), tolls(two, order)]
# [[('bba', (), (2,)), ('bba', (2,), ())], {('bba', (), (2,)): 0, ('bba', (2,), ()): 1}]
three = Ground("abc", 2)
plain = ["ab", "ac", "ba", "bc", "ca", "cb"]
[len(views(three, plain)), len(twins(three, plain)), heights(three, plain)[("bcb", (), (2,))], tolls(three, plain)[("bcb", (), (2,))], tolls(three, plain)[("cba", (1,), (2,))]]
# [40, 14, 1, 1, 0]
'''


class Examples(unittest.TestCase):
    def check(self, block, many):
        """Each line below which a comment stands gives what the comment tells."""
        names = {}
        lines = block.strip().split("\n")
        told = 0
        for line, behind in zip(lines, lines[1:] + [""]):
            if behind.startswith("# "):
                found = eval(line, names)
                self.assertEqual(repr(found), repr(ast.literal_eval(behind[2:])), line)
                told += 1
            elif not line.startswith("# "):
                exec(line, names)
        self.assertEqual(told, many)

    def test_words_and_periods(self):
        self.check(WORDS_AND_PERIODS, 2)

    def test_grounds_and_windows(self):
        self.check(GROUNDS_AND_WINDOWS, 2)

    def test_orders(self):
        self.check(ORDERS, 2)

    def test_rounds(self):
        self.check(ROUNDS, 2)

    def test_cuts(self):
        self.check(CUTS, 2)

    def test_pieces(self):
        self.check(PIECES, 5)

    def test_rules(self):
        self.check(RULES, 3)

    def test_rings(self):
        self.check(RINGS, 3)

    def test_views(self):
        self.check(VIEWS, 3)


if __name__ == "__main__":
    unittest.main()
