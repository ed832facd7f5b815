"""Rounds: the own windows of a ground, told ahead for all texts, so that those of one round are never near."""

from math import comb

from owncuts.checks import are_places, check_number, is_ascending
from owncuts.colours import fewest_colours, greatest_near_group
from owncuts.errors import InvalidRounds, InvalidSets, Refused
from owncuts.grounds import are_near, check_ground, is_own_window, own_windows, pair_below
from owncuts.orders import depths, is_order


def _joined_lists(rows):
    return [window for row in rows for window in row]


def are_rounds(ground, value):
    """Return whether any object is rounds of a ground."""
    check_ground(ground)
    if not isinstance(value, list) or not all([isinstance(row, list) and row != [] for row in value]):
        return False
    if not is_order(ground, _joined_lists(value)):
        return False
    return all([is_ascending(row) and pair_below(ground.gap(), row) is None for row in value])


def check_rounds(ground, value):
    if not are_rounds(ground, value):
        raise InvalidRounds(value)


def rounds_of(ground, order):
    """Return the list of the ascending lists of the windows of depth 1, 2, .. in an order."""
    found = depths(ground, order)
    rows = [[] for _ in range(max(found.values()))]
    for window, depth in found.items():
        rows[depth - 1].append(window)
    return rows


def order_of(ground, rounds):
    """Return the order of the first round's windows, then the second one's, and so on."""
    check_ground(ground)
    check_rounds(ground, rounds)
    return _joined_lists(rounds)


def _near_windows(ground):
    """Return the dictionary from the own windows to the dictionaries of those near them."""
    own = own_windows(ground)
    return {one: {other: True for other in own if are_near(ground, one, other)} for one in own}


def least_rounds(ground):
    """Return the least number of rounds."""
    return len(fewest_rounds(ground))


def fewest_rounds(ground):
    """Return any rounds of which there are as few as can be."""
    check_ground(ground)
    told = fewest_colours(_near_windows(ground))
    rows = [[] for _ in range(max(told.values()) + 1)]
    for window in sorted(told):
        rows[told[window]].append(window)
    return rows


def are_fewest(ground, value):
    """Return whether any object is rounds of which there are as few as can be."""
    return are_rounds(ground, value) and len(value) == least_rounds(ground)


def all_near(ground):
    """Return any greatest ascending list of own windows each two of which are near."""
    check_ground(ground)
    return greatest_near_group(_near_windows(ground))


def is_all_near(ground, value):
    """Return whether any object is what all_near may return."""
    check_ground(ground)
    if not isinstance(value, list) or not all([is_own_window(ground, window) for window in value]):
        return False
    if not is_ascending(value) or len(value) != len(all_near(ground)):
        return False
    return all([are_near(ground, one, other) for at, one in enumerate(value) for other in value[at + 1:]])


def _are_counts_below(value, number):
    return are_places(value) and (value == [] or (value[0] >= 0 and value[-1] < number))


def _as_keys(sets):
    """Return the sets as dictionaries of their counts, in which a count is found at once."""
    return {sign: {position: True for position in row} for sign, row in sets.items()}


def _has_all(row, other):
    return all([position in row for position in other])


def are_sets(ground, number, value):
    """Return whether any object is sets for a number of rounds of a ground of gap 2."""
    check_ground(ground)
    check_number(number, 1)
    if ground.gap() != 2 or not isinstance(value, dict):
        return False
    signs = ground.signs()
    if len(value) != len(signs) or not all([sign in value for sign in signs]):
        return False
    if not all([_are_counts_below(row, number) for row in value.values()]):
        return False
    members = _as_keys(value)
    pairs = [(one, other) for one in signs for other in signs if one != other]
    return not any([_has_all(members[one], members[other]) for one, other in pairs])


def sets_of(ground, rounds):
    """Return the sets of the positions of the rounds that have a window beginning with each sign."""
    check_ground(ground)
    check_rounds(ground, rounds)
    if ground.gap() != 2:
        raise Refused(ground)
    found = {sign: [] for sign in ground.signs()}
    for position, row in enumerate(rounds):
        for sign in sorted(set([window[0] for window in row])):
            found[sign].append(position)
    return found


def rounds_by(ground, number, sets):
    """Return the rounds told by the least number that the set of a window's first sign has alone."""
    check_ground(ground)
    check_number(number, 1)
    if ground.gap() != 2:
        raise Refused(ground)
    if not are_sets(ground, number, sets):
        raise InvalidSets(sets)
    members = _as_keys(sets)
    found = {}
    for window in own_windows(ground):
        least = min([position for position in members[window[0]] if position not in members[window[1]]])
        found.setdefault(least, []).append(window)
    return [found[position] for position in sorted(found)]


def signs_for(number):
    """Return the greatest number of signs for which so many rounds will do at gap 2."""
    check_number(number, 1)
    return comb(number, number // 2)


def rounds_for(many):
    """Return the least number of rounds that will do for so many signs at gap 2."""
    check_number(many, 2)
    number = 1
    while signs_for(number) < many:
        number += 1
    return number
