"""Partings: how two texts that were alike can be at unlike views, and for how long they can stay so."""

from owncuts.ways import last_number, turned


def parted_views(twin):
    """Return the list of the two views of a twin."""
    word, first, second = twin
    return [(word, first), (word, second)]


def _parted_behind(ways, one, other):
    """Return the list of the twins that come right behind two views with one word."""
    return [(view[0], view[1], late[1]) for view in ways[one] for late in ways[other]
            if view[0] == late[0] and view[1] != late[1]]


def partings_of(ways):
    """Return two dictionaries: from the twins to the next ones of each, and to what comes first ahead of it.

    That is a twin, or the view that two texts alike have there.
    """
    after = {}
    ahead = {}
    level = []
    for view in ways:
        for twin in _parted_behind(ways, view, view):
            if twin not in ahead:
                ahead[twin] = view
                level.append(twin)
    while level:
        later = []
        for twin in level:
            one, other = parted_views(twin)
            after[twin] = _parted_behind(ways, one, other)
            for behind in after[twin]:
                if behind not in ahead:
                    ahead[behind] = twin
                    later.append(behind)
        level = later
    return after, ahead


def _last_first(after):
    """Return the list of the twins, each behind all of its next ones."""
    ahead = turned(after)
    left = {twin: len(others) for twin, others in after.items()}
    ready = [twin for twin in left if left[twin] == 0]
    found = []
    while ready:
        at = ready.pop()
        found.append(at)
        for twin in ahead.get(at, []):
            left[twin] -= 1
            if left[twin] == 0:
                ready.append(twin)
    return found


def heights_in(after):
    """Return the dictionary from the twins, ascending, to their heights."""
    found = {}
    for twin in _last_first(after):
        found[twin] = max([1 + found[behind] for behind in after[twin]], default=0)
    return {twin: found[twin] for twin in sorted(found)}


def _signs_to_a_cut(ground, ways, view):
    """Return the dictionary of the next signs with which one of the gap - 1 places behind a view's can be a cut."""
    found = {}
    level = {(other[0][-1], other): True for other in ways[view]}
    for _ in range(ground.gap() - 1):
        later = {}
        for sign, at in level:
            if last_number(ground) in at[1]:
                found[sign] = True
            else:
                for other in ways[at]:
                    later[sign, other] = True
        level = later
    return found


def _ends_a_span(ground, ways, twin):
    """Return whether two texts can part right behind a twin so that ahead of there the second one has one more cut."""
    one, other = parted_views(twin)
    signs = _signs_to_a_cut(ground, ways, other)
    return any([late[0][-1] != sign for sign in signs for late in ways[one]])


def tolls_in(ground, ways, after):
    """Return the dictionary from the twins, ascending, to their tolls."""
    # Two texts with one past and a cut at one place have the same cuts ahead of it, so at twins they have no new cut
    # alike; nor in the last gap - 1 places ahead of where they part, whose windows reach behind that.
    found = {}
    for twin in _last_first(after):
        most = 1 if _ends_a_span(ground, ways, twin) else 0
        for behind in after[twin]:
            new = 1 if last_number(ground) in behind[2] else 0
            most = max(most, new + found[behind])
        found[twin] = most
    return {twin: found[twin] for twin in sorted(found)}
