"""Likeness of orders: which two cut every text alike, and which windows need no rank."""

from owncuts.checks import is_whole_number
from owncuts.errors import InvalidOrder
from owncuts.grounds import check_ground, check_text_of, is_text_of
from owncuts.orders import are_unlike_own, check_ground_and_order, check_order, ranks_in
from owncuts.sites import Sites, chosen, text_sites
from owncuts.ways import blank_view, leading_to, spelled, way_to, ways_of


def _check_orders(ground, one, other):
    check_ground_and_order(ground, one)
    check_order(ground, other)


def _pairs_of_views(ground, one, other):
    """Return the ways of the pairs of the views that one text has by two orders at one position."""
    ways = ways_of(ground, one)
    late_ways = ways_of(ground, other)
    blank = (blank_view(ground), blank_view(ground))
    after = {}
    waiting = [blank]
    while waiting:
        pair = waiting.pop()
        if pair not in after:
            after[pair] = [(view, late) for view in ways[pair[0]] for late in late_ways[pair[1]] if view[0] == late[0]]
            waiting.extend(after[pair])
    lasting = leading_to(after, blank)
    return {pair: [thing for thing in after[pair] if thing in lasting] for pair in lasting}


def cut_alike(ground, one, other):
    """Return whether every text has the same cuts by two orders."""
    return parting_text(ground, one, other) is None


def parting_text(ground, one, other):
    """Return any text, and a place that is a cut of it by just one of two orders, None if they cut alike."""
    _check_orders(ground, one, other)
    ways = _pairs_of_views(ground, one, other)
    unlike = {pair: True for pair in ways if pair[0] != pair[1]}
    if unlike == {}:
        return None
    blank = (blank_view(ground), blank_view(ground))
    row = way_to(ways, blank, unlike)
    at = len(row) - 1
    first, second = row[-1][0][1], row[-1][1][1]
    row.extend(way_to(ways, row[-1], {blank: True})[1:])
    return (spelled([view for view, _ in row]), at + sorted(set(first) ^ set(second))[0])


def is_parting_text(ground, one, other, value):
    """Return whether any object is what parting_text may return as a tuple."""
    _check_orders(ground, one, other)
    if not isinstance(value, tuple) or len(value) != 2:
        return False
    text, place = value
    if not is_text_of(ground, text) or not is_whole_number(place):
        return False
    sites = text_sites(ground, text)
    return (place in chosen(sites, ranks_in(one))) != (place in chosen(sites, ranks_in(other)))


def idle_windows(ground, order):
    """Return the ascending list of the own windows with which no place of any text is a cut."""
    check_ground_and_order(ground, order)
    half = ground.gap() - 1
    cut = {word[:ground.width()]: True for word, numbers in ways_of(ground, order) if half in numbers}
    return [window for window in sorted(order) if window not in cut]


def cuts_by_list(ground, row, text):
    """Return the ascending list of all cuts of a text by a list of unlike own windows."""
    check_ground(ground)
    if not are_unlike_own(ground, row):
        raise InvalidOrder(row)
    check_text_of(ground, text)
    sites = text_sites(ground, text)
    ranks = ranks_in(row)
    listed = {place: window for place, window in sites.windows.items() if window in ranks}
    return chosen(Sites(listed, sites.near), ranks)


def least_list(ground, order):
    """Return an order without its idle windows."""
    idle = idle_windows(ground, order)
    return [window for window in order if window not in idle]
