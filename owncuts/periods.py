"""Texts, words, and the numbers of signs by which they repeat themselves."""

from math import gcd

from owncuts.checks import check_number, check_text, check_word, is_word
from owncuts.errors import Refused


def _is_had(text, period):
    # A period not less than the length has nothing to compare, and counts as had.
    return text.startswith(text[period:])


def repeats_below(text, below):
    """Return whether a text has a period below a number."""
    for period in range(1, min(below, len(text))):
        if _is_had(text, period):
            return True
    return False


def periods(text):
    """Return the ascending list of the periods of a text."""
    check_text(text)
    return [period for period in range(1, len(text)) if _is_had(text, period)]


def has_period(text, period):
    """Return whether a number is a period of a text."""
    check_text(text)
    check_number(period, 1)
    return period < len(text) and _is_had(text, period)


def least_period(word):
    """Return the least period of a word, its length if there is none."""
    check_word(word)
    for period in range(1, len(word)):
        if _is_had(word, period):
            return period
    return len(word)


def borders(text):
    """Return the ascending list of the lengths of the texts with which a text both begins and ends."""
    check_text(text)
    return [length for length in range(1, len(text)) if text.endswith(text[:length])]


def root(word):
    """Return the tuple of the shortest word of which a word is so many, and of how many."""
    check_word(word)
    period = least_period(word)
    if len(word) % period != 0:
        return (word, 1)
    return (word[:period], len(word) // period)


def many_words(signs, length):
    """Return how many words of a length there are on so many signs."""
    many = 1
    for _ in range(length):
        many = many * signs
    return many


def many_primitives(signs, length):
    """Return how many primitive words of a length there are on so many signs."""
    check_number(signs, 1)
    check_number(length, 1)
    many = {}
    for part in range(1, length + 1):
        if length % part == 0:
            # Every other word of this length has just one root, of a shorter length that divides it.
            shorter = [many[size] for size in many if part % size == 0]
            many[part] = many_words(signs, part) - sum(shorter)
    return many[length]


def meeting_length(one, other):
    """Return the least length at which two periods of a text have their greatest common divisor as one, too."""
    check_number(one, 1)
    check_number(other, 1)
    return one + other - gcd(one, other)


def _tied_to(start, length, steps):
    """Return the positions below a length that lead to one by steps to either side, as keys."""
    found = {start: True}
    behind = [start]
    while behind:
        at = behind.pop()
        for step in steps:
            for there in (at - step, at + step):
                if 0 <= there < length and there not in found:
                    found[there] = True
                    behind.append(there)
    return found


def two_period_word(one, other):
    """Return a longest word with two periods and not their greatest common divisor, None if there is none."""
    length = meeting_length(one, other) - 1
    divisor = gcd(one, other)
    if divisor == one or divisor == other:
        return None
    # Positions a multiple of the divisor apart make a row; only the row from divisor - 1 on is too short for
    # all of it to be tied together, and two signs in it keep the divisor from being a period.
    tied = _tied_to(divisor - 1, length, (one, other))
    return "".join(["b" if at in tied else "a" for at in range(length)])


def is_two_period_word(one, other, value):
    """Return whether any object is what two_period_word may return as a word."""
    length = meeting_length(one, other) - 1
    if not is_word(value) or len(value) != length:
        return False
    return _is_had(value, one) and _is_had(value, other) and not _is_had(value, gcd(one, other))


def _runs(text, period):
    """Return the tuples (first, last) of the stretches with a period that cannot be made longer with it."""
    found = []
    first = 0
    for at in range(period, len(text) + 1):
        if at == len(text) or text[at] != text[at - period]:
            if at - first > period:
                found.append((first, at - 1))
            first = at - period + 1
    return found


def stretches(text, below, least):
    """Return the ascending list of the tuples (first, last, period) of the longest stretches with short periods."""
    check_text(text)
    check_number(below, 2)
    check_number(least, 2)
    if least < 2 * below - 3:
        raise Refused(least)
    told = {}
    for period in range(1, min(below, len(text))):
        for first, last in _runs(text, period):
            if last - first + 1 >= least:
                told.setdefault((first, -last), period)
    found = []
    reached = -1
    # Of those with the same first sign the longest one comes first, so what lies within another one comes behind it.
    for first, back in sorted(told):
        if -back > reached:
            reached = -back
            found.append((first, reached, told[first, back]))
    return found
