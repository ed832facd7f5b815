"""Orders: all own windows of a ground, each once; and what near windows of lesser rank make of them."""

from owncuts.errors import InvalidOrder
from owncuts.grounds import are_near, check_ground, check_own_window, is_own_window, many_own, own_windows


def are_unlike_own(ground, value):
    """Return whether any object is a list of own windows, each once, perhaps not of all."""
    if not isinstance(value, list) or not all([is_own_window(ground, window) for window in value]):
        return False
    return len(set(value)) == len(value)


def is_order(ground, value):
    """Return whether any object is a list of all own windows, each once."""
    check_ground(ground)
    # How many there are is asked last: it takes long where the gap is far wider than the texts that are passed.
    return are_unlike_own(ground, value) and value != [] and len(value) == many_own(ground)


def check_order(ground, value):
    if not is_order(ground, value):
        raise InvalidOrder(value)


def check_ground_and_order(ground, order):
    check_ground(ground)
    check_order(ground, order)


def ranks_in(order):
    """Return the dictionary from the windows of an order to their ranks."""
    return {window: rank for rank, window in enumerate(order)}


def plain_order(ground):
    """Return the ascending order."""
    return own_windows(ground)


def rank_of(ground, order, window):
    """Return the rank of an own window."""
    check_ground_and_order(ground, order)
    check_own_window(ground, window)
    return order.index(window)


def depths(ground, order):
    """Return the dictionary from the own windows, ascending, to their depths."""
    check_ground_and_order(ground, order)
    # The greatest depths so far of the windows that begin, and of those that end, with a text: how much shorter
    # than a window it is tells the distance at which another window may lie over it.
    beginnings = {}
    endings = {}
    found = {}
    for window in order:
        shared = [(window[:-distance], window[distance:]) for distance in range(1, ground.gap())]
        behind = [beginnings.get(ending, 0) for _, ending in shared]
        ahead = [endings.get(beginning, 0) for beginning, _ in shared]
        depth = 1 + max(behind + ahead)
        for beginning, ending in shared:
            beginnings[beginning] = max(depth, beginnings.get(beginning, 0))
            endings[ending] = max(depth, endings.get(ending, 0))
        found[window] = depth
    return {window: found[window] for window in sorted(found)}


def greatest_depth(ground, order):
    """Return the greatest depth of a window in an order."""
    return max(depths(ground, order).values())


def _falls(ground, ranks, one, other):
    return ranks[other] < ranks[one] and are_near(ground, one, other)


def falling_path(ground, order):
    """Return a longest list of own windows, each but the first near the one ahead and of lesser rank."""
    found = depths(ground, order)
    ranks = ranks_in(order)
    path = []
    for depth in range(max(found.values()), 0, -1):
        level = [window for window in order if found[window] == depth]
        fitting = [window for window in level if path == [] or _falls(ground, ranks, path[-1], window)]
        path.append(fitting[0])
    return path


def is_falling_path(ground, order, value):
    """Return whether any object is what falling_path may return."""
    longest = greatest_depth(ground, order)
    if not isinstance(value, list) or len(value) != longest:
        return False
    if not all([is_own_window(ground, window) for window in value]):
        return False
    ranks = ranks_in(order)
    return all([_falls(ground, ranks, one, other) for one, other in zip(value, value[1:])])


def mirrored_order(ground, order):
    """Return the order of the windows read backwards, each in the place of its own."""
    check_ground_and_order(ground, order)
    return [window[::-1] for window in order]
