"""Rules of any width: places marked by the words that they see, and what such rules can and cannot do."""

from owncuts.checks import check_number, is_ascending, is_count
from owncuts.errors import InvalidNumber, InvalidRule
from owncuts.grounds import check_ground, check_text_of, is_own_window, is_text_of, is_word_of, pair_below, words_long
from owncuts.orders import greatest_depth, ranks_in
from owncuts.periods import repeats_below, two_period_word
from owncuts.sites import chosen, row_part, text_sites, window_in_row


def is_rule(ground, value):
    """Return whether any object is a rule of a ground."""
    check_ground(ground)
    if not isinstance(value, tuple) or len(value) != 2:
        return False
    words, at = value
    if not isinstance(words, list) or words == [] or not all([is_word_of(ground, word) for word in words]):
        return False
    width = len(words[0])
    return all([len(word) == width for word in words]) and is_ascending(words) and is_count(at) and at <= width


def check_rule(ground, value):
    if not is_rule(ground, value):
        raise InvalidRule(value)


def _check_ground_and_rule(ground, rule):
    check_ground(ground)
    check_rule(ground, rule)


def _marked(ground, rule, text, places):
    """Return the list of those of some places of a text that a rule marks."""
    words, at = rule
    width = len(words[0])
    looked_for = {word: True for word in words}
    return [place for place in places if row_part(ground, text, place - at, width) in looked_for]


def marks(ground, rule, text):
    """Return the ascending list of the places from 0 to the length of a text that a rule marks."""
    _check_ground_and_rule(ground, rule)
    check_text_of(ground, text)
    return _marked(ground, rule, text, list(range(len(text) + 1)))


def is_apart(ground, rule):
    """Return whether in no text two places that a rule marks lie less than the gap from one another."""
    return near_marks(ground, rule) is None


def near_marks(ground, rule):
    """Return a text and two marked places in it, less than the gap from one another, None if there is none."""
    _check_ground_and_rule(ground, rule)
    words, at = rule
    pair = pair_below(ground.gap(), words)
    if pair is None:
        return None
    one, other, distance = pair
    return (one[:distance].ljust(distance, ground.signs()[0]) + other, at, at + distance)


def is_near_marks(ground, rule, value):
    """Return whether any object is a text and two marked places in it, less than the gap from one another."""
    _check_ground_and_rule(ground, rule)
    if not isinstance(value, tuple) or len(value) != 3:
        return False
    text, one, other = value
    if not is_text_of(ground, text) or not is_count(one) or not is_count(other):
        return False
    if not one < other <= len(text) or other - one >= ground.gap():
        return False
    return _marked(ground, rule, text, [one, other]) == [one, other]


def _check_width(ground, width):
    check_ground(ground)
    check_number(width, 1)


def _is_free(ground, word):
    """Return whether a word has at least gap signs and no period below the gap."""
    return len(word) >= ground.gap() and not repeats_below(word, ground.gap())


def _seen_free(ground, text, first, width):
    """Return whether so many signs of a row, from a position on, are at least gap and have no period below it."""
    # More of the endless rows than twice the gap tells nothing new: there all is the one sign, or no period is left.
    begun = max(first, -2 * ground.gap())
    behind = min(first + width, len(text) + 2 * ground.gap())
    return width >= ground.gap() and _is_free(ground, row_part(ground, text, begun, max(behind - begun, 0)))


def markable(ground, width, at, text):
    """Return the ascending list of the places of a text that some rule of a width and an at that is apart marks."""
    _check_width(ground, width)
    check_number(at, 0)
    if at > width:
        raise InvalidNumber(at)
    check_text_of(ground, text)
    return [place for place in range(len(text) + 1) if _seen_free(ground, text, place - at, width)]


def _repeated_to_the_left(word, period, length):
    """Return a word that ends with a word, goes on by a period to its left, and has so many signs."""
    turn = word[:period]
    return (turn * (length // period + 1) + word)[-length:]


def _blind_word(width, least, gap):
    """Return a blind text of the signs a and b, of at least `least` signs, for a width that has one."""
    if width < gap:
        return "a" * (max(width, least) - 1) + "b"
    # Two periods below the gap that meet late: each word one longer than their common part is within one of them.
    shared = two_period_word(gap - 1, gap - 2)
    left = _repeated_to_the_left(shared, gap - 1, max(least, 2 * gap))
    right = _repeated_to_the_left(shared[::-1], gap - 2, 2 * gap)[::-1]
    return left + right[len(shared):]


def blind_text(ground, width, least):
    """Return a text without a short period whose words of a width do not show that, None if there is none."""
    _check_width(ground, width)
    check_number(least, 0)
    gap = ground.gap()
    if width >= max(gap, 2 * gap - 3):
        return None
    first, second = ground.signs()[:2]
    return "".join([first if sign == "a" else second for sign in _blind_word(width, least, gap)])


def is_blind_text(ground, width, least, value):
    """Return whether any object is what blind_text may return as a text, of whatever length."""
    _check_width(ground, width)
    check_number(least, 0)
    if not is_text_of(ground, value) or len(value) < max(width, least) or repeats_below(value, ground.gap()):
        return False
    words = [value[first:first + width] for first in range(len(value) - width + 1)]
    return not any([_is_free(ground, word) for word in words])


def is_whole(ground, rule):
    """Return whether a rule is apart and leaves no place of an own window without a mark less than the gap away."""
    return is_apart(ground, rule) and missed(ground, rule) is None


def missed(ground, rule):
    """Return a text and a place of an own window in it without a mark less than the gap away, None if there is none."""
    _check_ground_and_rule(ground, rule)
    words, at = rule
    width = len(words[0])
    looked_for = {word: True for word in words}
    left = [""]
    # A mark less than the gap from the place sees one of the words that stand anywhere in these texts.
    for length in range(1, width + ground.width() + 1):
        longer = [text + sign for text in left for sign in ground.signs()]
        left = [text for text in longer if text[-width:] not in looked_for]
        if length == at + ground.width():
            left = [text for text in left if is_own_window(ground, text[at:])]
    if left == []:
        return None
    return (left[0], at + ground.gap() - 1)


def is_missed(ground, rule, value):
    """Return whether any object is a text and a place of an own window in it without a mark less than the gap away."""
    _check_ground_and_rule(ground, rule)
    if not isinstance(value, tuple) or len(value) != 2:
        return False
    text, place = value
    if not is_text_of(ground, text) or not is_count(place) or place > len(text):
        return False
    if not is_own_window(ground, window_in_row(ground, text, place)):
        return False
    return _marked(ground, rule, text, list(range(place - ground.gap() + 1, place + ground.gap()))) == []


def reach(ground, order):
    """Return how far from a place the signs stand, at most, on which it hangs whether it is a cut by an order."""
    return greatest_depth(ground, order) * (ground.gap() - 1)


def rule_seeing(ground, order, width, at):
    """Return the rule whose marks are the cuts by an order, where so much of a text tells whether a place is one."""
    ranks = ranks_in(order)
    words = words_long(ground, width)
    return ([word for word in words if at in chosen(text_sites(ground, word), ranks)], at)


def rule_of(ground, order):
    """Return the rule of twice the reach, its at the reach, whose marks are the cuts by an order."""
    at = reach(ground, order)
    return rule_seeing(ground, order, 2 * at, at)
