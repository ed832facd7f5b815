"""Grounds: signs and a gap; and their windows, with what lies near what."""

from owncuts.checks import LETTERS, is_count, is_made_of
from owncuts.errors import InvalidGap, InvalidGround, InvalidSigns, InvalidText, InvalidWindow, InvalidWord
from owncuts.periods import least_period, many_primitives, many_words, repeats_below


def _are_signs(value):
    return is_made_of(value, LETTERS) and len(value) >= 2 and "".join(sorted(set(value))) == value


class Ground:
    """The signs of texts and the least distance of their cuts; it never changes."""

    def __init__(self, signs, gap):
        if not _are_signs(signs):
            raise InvalidSigns(signs)
        if not is_count(gap) or gap < 2:
            raise InvalidGap(gap)
        self._signs = signs
        self._gap = gap

    def __eq__(self, other):
        return isinstance(other, Ground) and self._signs == other._signs and self._gap == other._gap

    def signs(self):
        return self._signs

    def gap(self):
        return self._gap

    def width(self):
        return 2 * self._gap - 2


def check_ground(value):
    if not isinstance(value, Ground):
        raise InvalidGround(value)


def is_text_of(ground, value):
    """Return whether any object is a text of a ground."""
    return is_made_of(value, ground.signs())


def is_word_of(ground, value):
    return is_text_of(ground, value) and value != ""


def check_text_of(ground, value):
    if not is_text_of(ground, value):
        raise InvalidText(value)


def check_word_of(ground, value):
    if not is_word_of(ground, value):
        raise InvalidWord(value)


def is_window(ground, value):
    return is_text_of(ground, value) and len(value) == ground.width()


def is_own_window(ground, value):
    """Return whether any object is an own window of a ground."""
    return is_window(ground, value) and not repeats_below(value, ground.gap())


def check_window(ground, value):
    if not is_window(ground, value):
        raise InvalidWindow(value)


def check_own_window(ground, value):
    if not is_own_window(ground, value):
        raise InvalidWindow(value)


def _check_two(ground, one, other):
    check_ground(ground)
    check_window(ground, one)
    check_window(ground, other)


def words_long(ground, length):
    """Return the ascending list of the texts of a ground of a length."""
    found = [""]
    for _ in range(length):
        found = [word + sign for word in found for sign in ground.signs()]
    return found


def windows(ground):
    """Return the ascending list of the windows of a ground."""
    check_ground(ground)
    return words_long(ground, ground.width())


def own_windows(ground):
    """Return the ascending list of the windows that do not repeat."""
    return [window for window in windows(ground) if is_own(ground, window)]


def is_own(ground, window):
    """Return whether a window has no period below the gap."""
    check_ground(ground)
    check_window(ground, window)
    return not repeats_below(window, ground.gap())


def many_own(ground):
    """Return how many windows do not repeat."""
    check_ground(ground)
    many = len(ground.signs())
    # A window that repeats is told by the primitive word with which it begins, as long as its least period.
    repeating = [many_primitives(many, length) for length in range(1, ground.gap())]
    return many_words(many, ground.width()) - sum(repeating)


def _distances_behind(gap, one, other):
    return [distance for distance in range(1, gap) if other.startswith(one[distance:])]


def distances(ground, one, other):
    """Return the ascending list of the distances below the gap at which one window may lie behind another one."""
    _check_two(ground, one, other)
    return _distances_behind(ground.gap(), one, other)


def are_near(ground, one, other):
    """Return whether two windows can lie less than the gap from one another."""
    return near_text(ground, one, other) is not None


def near_ones(ground, window):
    """Return the ascending list of the own windows near a window."""
    check_ground(ground)
    check_window(ground, window)
    return [other for other in own_windows(ground) if are_near(ground, window, other)]


def near_text(ground, one, other):
    """Return a text with two near windows and the positions of the one and the other, None if they are not near."""
    _check_two(ground, one, other)
    behind = _distances_behind(ground.gap(), one, other)
    if behind != []:
        return (one[:behind[0]] + other, 0, behind[0])
    ahead = _distances_behind(ground.gap(), other, one)
    if ahead != []:
        return (other[:ahead[0]] + one, ahead[0], 0)
    return None


def is_near_text(ground, one, other, value):
    """Return whether any object is what near_text may return for two near windows."""
    _check_two(ground, one, other)
    if not isinstance(value, tuple) or len(value) != 3:
        return False
    text, at, late = value
    if not is_text_of(ground, text) or not is_count(at) or not is_count(late):
        return False
    if not 1 <= abs(late - at) < ground.gap():
        return False
    width = ground.width()
    return text[at:at + width] == one and text[late:late + width] == other


def pair_below(gap, words):
    """Return of words of one length two, and a distance below the gap at which the second may lie behind the first.

    They may be the same word; None is returned if there are no such two.
    """
    for distance in range(1, gap):
        # At a distance not less than the length nothing lies over anything: every word begins with the empty one.
        shared = max(len(words[0]) - distance, 0)
        beginnings = {word[:shared]: word for word in words}
        for word in words:
            if word[distance:] in beginnings:
                return (word, beginnings[word[distance:]], distance)
    return None


def next_ones(ground, window):
    """Return the ascending list of the windows that may lie one place behind a window."""
    check_ground(ground)
    check_window(ground, window)
    return [window[1:] + sign for sign in ground.signs()]


def _ring_from(window):
    """Return the list of the windows that repeat and lie behind one that does, from it on, up to where it is again."""
    period = least_period(window)
    row = window[:period] * (len(window) // period + 2)
    return [row[at:at + len(window)] for at in range(period)]


def lone_rings(ground):
    """Return the ascending list of the rings in which the windows that repeat go."""
    check_ground(ground)
    rings = [_ring_from(window) for window in windows(ground) if not is_own(ground, window)]
    return [ring for ring in rings if ring[0] == min(ring)]
