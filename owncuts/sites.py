"""Places of own windows, in texts between endless rows and in rings, and which of them are cuts by an order."""

from owncuts.grounds import is_own_window, own_windows


class Sites:
    """The places of own windows of one endless row, and for each the other ones less than the gap from it."""

    def __init__(self, windows, near):
        self.windows = windows
        self.near = near


def row_part(ground, text, first, many):
    """Return so many signs, from a position on, of a text between two endless rows of the ground's first sign."""
    sign = ground.signs()[0]
    ahead = min(max(-first, 0), many)
    return (sign * ahead + text[max(first, 0):max(first + many, 0)]).ljust(many, sign)


def window_in_row(ground, text, place):
    return row_part(ground, text, place - ground.gap() + 1, ground.width())


def text_sites(ground, text):
    """Return the sites of a text."""
    gap = ground.gap()
    seen = {place: window_in_row(ground, text, place) for place in range(2 - gap, len(text) + gap - 1)}
    found = {place: window for place, window in seen.items() if is_own_window(ground, window)}
    near = {}
    for place in found:
        near[place] = [other for other in range(place - gap + 1, place + gap) if other in found and other != place]
    return Sites(found, near)


def windows_round(ground, ring):
    """Return the list of the windows of the places of a ring."""
    row = ring * (ground.width() // len(ring) + 2)
    # A window begins gap - 1 signs ahead of its place, however often that goes round.
    firsts = [(place - ground.gap() + 1) % len(ring) for place in range(len(ring))]
    return [row[first:first + ground.width()] for first in firsts]


def ring_sites(ground, ring):
    """Return the sites of a ring."""
    gap = ground.gap()
    seen = windows_round(ground, ring)
    found = {place: window for place, window in enumerate(seen) if is_own_window(ground, window)}
    near = {}
    for place in found:
        around = sorted(set([other % len(ring) for other in range(place - gap + 1, place + gap)]))
        near[place] = [other for other in around if other in found and other != place]
    return Sites(found, near)


def chosen(sites, ranks):
    """Return the ascending list of the sites that are cuts by an order with these ranks."""
    found = []
    barred = {}
    for _, place in sorted([(ranks[window], place) for place, window in sites.windows.items()]):
        if place not in barred:
            found.append(place)
            for other in sites.near[place]:
                barred[other] = True
    return sorted(found)


def _are_barred(sites, cuts, taken, places):
    """Return whether near each of some places lies one of some cuts whose window is among those taken."""
    for place in places:
        if not any([other in cuts and sites.windows[other] in taken for other in sites.near[place]]):
            return False
    return True


def order_choosing(ground, sites, places):
    """Return any order by which the cuts are these places, None if there is none."""
    cuts = {place: True for place in places}
    if not all([place in sites.windows for place in places]):
        return None
    if any([other in cuts for place in places for other in sites.near[place]]):
        return None
    open_places = {}
    for place, window in sites.windows.items():
        if place not in cuts:
            open_places.setdefault(window, []).append(place)
    # Each window is taken as soon as its places that are to be no cuts are barred by windows taken ahead:
    # to take one keeps no other one from being taken later.
    taken = {}
    left = own_windows(ground)
    while left != []:
        ready = [window for window in left if _are_barred(sites, cuts, taken, open_places.get(window, []))]
        if ready == []:
            return None
        for window in ready:
            taken[window] = True
        left = [window for window in left if window not in taken]
    return list(taken)
