"""The examples of the document, as they stand there."""

import ast
import unittest

WORDS_AND_PERIODS = '''
from owncuts.periods import borders, has_period, is_two_period_word, least_period, many_primitives, meeting_length, periods, root, stretches, two_period_word
[periods("abaab"), has_period("abaab", 5), least_period("abab"), borders("abaab"), root("ababab"), many_primitives(2, 4)]
# [[3], False, 2, [2], ('ab', 3), 12]
[meeting_length(2, 3), is_two_period_word(2, 3, two_period_word(2, 3)), two_period_word(2, 4), stretches("aababab", 3, 4)]
# [4, True, None, [(1, 6, 2)]]
'''

GROUNDS_AND_WINDOWS = '''
from owncuts.grounds import Ground, are_near, distances, is_near_text, is_own, many_own, next_ones, own_windows, lone_rings
ground = Ground("ab", 3)
[ground.width(), many_own(ground), len(own_windows(ground)), is_own(ground, "aaab"), is_own(ground, "abab"), many_own(Ground("abc", 3))]
# [4, 12, 12, True, False, 72]
[distances(ground, "aabb", "abba"), are_near(ground, "bbaa", "aabb"), is_near_text(ground, "aabb", "abba", ("aabba", 0, 1)), next_ones(ground, "abab"), lone_rings(ground)]
# [[1], True, True, ['baba', 'babb'], [['aaaa'], ['abab', 'baba'], ['bbbb']]]
'''


class Examples(unittest.TestCase):
    def check(self, block, many):
        """Each line below which a comment stands gives what the comment tells."""
        names = {}
        lines = block.strip().split("\n")
        told = 0
        for line, behind in zip(lines, lines[1:] + [""]):
            if behind.startswith("# "):
                found = eval(line, names)
                self.assertEqual(repr(found), repr(ast.literal_eval(behind[2:])), line)
                told += 1
            elif not line.startswith("# "):
                exec(line, names)
        self.assertEqual(told, many)

    def test_words_and_periods(self):
        self.check(WORDS_AND_PERIODS, 2)

    def test_grounds_and_windows(self):
        self.check(GROUNDS_AND_WINDOWS, 2)


if __name__ == "__main__":
    unittest.main()
