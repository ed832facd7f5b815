"""Partings: how two texts that were alike can be at unlike views, and for how long they can stay so."""

from owncuts.ways import last_number, turned


def parted_views(twin):
    """Return the list of the two views of a twin."""
    word, first, second = twin
    return [(word, first), (word, second)]


def _parted_behind(ways, one, other):
    """Return the list of the twins that come right behind two views with one word."""
    return [(view[0], view[1], late[1]) for view in ways[one] for late in ways[other]
            if view[0] == late[0] and view[1] != late[1]]


def partings_of(ways):
    """Return two dictionaries: from the twins to the next ones of each, and to what comes first ahead of it.

    That is a twin, or the view that two texts alike have there.
    """
    after = {}
    ahead = {}
    level = []
    for view in ways:
        for twin in _parted_behind(ways, view, view):
            if twin not in ahead:
                ahead[twin] = view
                level.append(twin)
    while level:
        later = []
        for twin in level:
            one, other = parted_views(twin)
            after[twin] = _parted_behind(ways, one, other)
            for behind in after[twin]:
                if behind not in ahead:
                    ahead[behind] = twin
                    later.append(behind)
        level = later
    return after, ahead


def _last_first(after):
    """Return the list of the twins, each behind all of its next ones."""
    ahead = turned(after)
    left = {twin: len(others) for twin, others in after.items()}
    ready = [twin for twin in left if left[twin] == 0]
    found = []
    while ready:
        at = ready.pop()
        found.append(at)
        for twin in ahead.get(at, []):
            left[twin] -= 1
            if left[twin] == 0:
                ready.append(twin)
    return found


def heights_in(after):
    """Return the dictionary from the twins, ascending, to their heights."""
    found = {}
    for twin in _last_first(after):
        found[twin] = max([1 + found[behind] for behind in after[twin]], default=0)
    return {twin: found[twin] for twin in sorted(found)}


def _soonest_cuts(ground, ways, view):
    """Return the list of the tuples (sign, step): the next sign, and the step, of gap - 1, with a cut; 0 for none."""
    found = {}
    level = {(other[0][-1], other): True for other in ways[view]}
    for step in range(1, ground.gap()):
        later = {}
        for sign, at in level:
            if last_number(ground) in at[1]:
                found[sign, step] = True
            else:
                for other in ways[at]:
                    later[sign, other] = True
        level = later
    for sign, _ in level:
        found[sign, 0] = True
    return list(found)


def _has_unlike_last(twin):
    """Return whether the last cuts that the two texts have as yet are unlike."""
    # One of the two tuples may be empty; then that text has its last cut farther ahead.
    return twin[1][-1:] != twin[2][-1:]


def _is_new_span(ground, twin, behind):
    """Return whether the step from a twin to a next one ends a span of the second text that the first one lacks."""
    number = last_number(ground)
    return number in behind[2] and (number not in behind[1] or _has_unlike_last(twin))


def _ends_a_span(twin, firsts, seconds):
    """Return whether the texts can part right behind a twin so that a new span ends ahead of where they do."""
    unlike = _has_unlike_last(twin)
    return any([sign != other and late != 0 and (step != late or unlike)
                for sign, step in firsts for other, late in seconds])


def tolls_in(ground, ways, after):
    """Return the dictionary from the twins, ascending, to their tolls."""
    # The windows of the last gap - 1 places that both texts have alike reach behind these: there the signs are unlike.
    soonest = {}
    for twin in after:
        for view in parted_views(twin):
            if view not in soonest:
                soonest[view] = _soonest_cuts(ground, ways, view)
    found = {}
    for twin in _last_first(after):
        one, other = parted_views(twin)
        ended = [1] if _ends_a_span(twin, soonest[one], soonest[other]) else [0]
        found[twin] = max(ended + [_is_new_span(ground, twin, behind) + found[behind] for behind in after[twin]])
    return {twin: found[twin] for twin in sorted(found)}
