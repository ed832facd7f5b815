"""Cuts: where an order, or rounds, of the own windows of a ground cut a text, and why."""

from owncuts.checks import are_places, check_whole_place, is_list_of_whole_numbers, is_whole_number
from owncuts.errors import InvalidCuts, InvalidPlace, Refused
from owncuts.grounds import check_ground, check_text_of
from owncuts.orders import check_ground_and_order, is_order, ranks_in
from owncuts.rounds import check_rounds, order_of
from owncuts.sites import chosen, order_choosing, text_sites, window_in_row


def check_cutting(ground, order, text):
    check_ground_and_order(ground, order)
    check_text_of(ground, text)


def _check_site(sites, value):
    # True and False are found among the keys as 1 and 0 are, but they are no places.
    if not is_whole_number(value) or value not in sites.windows:
        raise InvalidPlace(value)


def window_at(ground, text, place):
    """Return the window of a place of a text."""
    check_ground(ground)
    check_text_of(ground, text)
    check_whole_place(place)
    return window_in_row(ground, text, place)


def own_places(ground, text):
    """Return the ascending list of the places of a text whose windows are own."""
    check_ground(ground)
    check_text_of(ground, text)
    return list(text_sites(ground, text).windows)


def cuts(ground, order, text):
    """Return the ascending list of all cuts of a text by an order."""
    check_cutting(ground, order, text)
    return chosen(text_sites(ground, text), ranks_in(order))


def inner_cuts(ground, order, text):
    """Return the ascending list of the cuts behind the beginning of a text and ahead of its end."""
    return [place for place in cuts(ground, order, text) if 0 < place < len(text)]


def are_cuts(ground, order, text, value):
    """Return whether any object is the list of all cuts of a text by an order."""
    found = cuts(ground, order, text)
    return is_list_of_whole_numbers(value) and value == found


def cuts_by_rounds(ground, rounds, text):
    """Return the ascending list of the cuts of a text by rounds."""
    check_ground(ground)
    check_rounds(ground, rounds)
    check_text_of(ground, text)
    # Windows of one round are never less than the gap apart: which of them comes first makes no difference.
    return chosen(text_sites(ground, text), ranks_in(order_of(ground, rounds)))


def barred_by(ground, order, text, place):
    """Return the cut of the least rank, the first of two such, that keeps a place of an own window from being one."""
    check_cutting(ground, order, text)
    sites = text_sites(ground, text)
    _check_site(sites, place)
    ranks = ranks_in(order)
    found = chosen(sites, ranks)
    if place in found:
        raise Refused(place)
    near = [(ranks[sites.windows[other]], other) for other in sites.near[place] if other in found]
    return min(near)[1]


def _lesser_near(sites, ranks):
    """Return the dictionary from the sites to the lists of those less than the gap away, of lesser ranks."""
    told = {place: ranks[window] for place, window in sites.windows.items()}
    return {place: [other for other in sites.near[place] if told[other] < told[place]] for place in told}


def settled(ground, order, text):
    """Return the dictionary from the places of own windows to the numbers of the steps that settle them."""
    check_cutting(ground, order, text)
    sites = text_sites(ground, text)
    ranks = ranks_in(order)
    lesser = _lesser_near(sites, ranks)
    steps = {}
    for _, place in sorted([(ranks[window], place) for place, window in sites.windows.items()]):
        steps[place] = 1 + max([steps[other] for other in lesser[place]], default=0)
    return {place: steps[place] for place in sites.windows}


def asked_for(ground, order, text, place):
    """Return the ascending list of the places on which a place of an own window hangs."""
    check_cutting(ground, order, text)
    sites = text_sites(ground, text)
    _check_site(sites, place)
    lesser = _lesser_near(sites, ranks_in(order))
    found = {place: True}
    waiting = [place]
    while waiting:
        at = waiting.pop()
        for other in lesser[at]:
            if other not in found:
                found[other] = True
                waiting.append(other)
    return sorted(found)


def _check_places(ground, text, places):
    check_ground(ground)
    check_text_of(ground, text)
    if not are_places(places):
        raise InvalidCuts(places)


def order_for(ground, text, places):
    """Return any order by which the cuts of a text are these places, None if there is none."""
    _check_places(ground, text, places)
    return order_choosing(ground, text_sites(ground, text), places)


def is_order_for(ground, text, places, value):
    """Return whether any object is what order_for may return as an order."""
    _check_places(ground, text, places)
    return is_order(ground, value) and chosen(text_sites(ground, text), ranks_in(value)) == places
