"""Partings: how two texts that were alike can be at unlike views, and for how long they can stay so."""

from owncuts.ways import last_number, turned, way_to


def parted_views(twin):
    """Return the list of the two views of a twin."""
    word, first, second = twin
    return [(word, first), (word, second)]


def _parted_behind(ways, one, other):
    """Return the list of the twins that come right behind two views with one word."""
    return [(view[0], view[1], late[1]) for view in ways[one] for late in ways[other]
            if view[0] == late[0] and view[1] != late[1]]


def partings_of(ways):
    """Return two dictionaries: from the twins to the next ones of each, and to what comes first ahead of it.

    That is a twin, or the view that two texts alike have there.
    """
    after = {}
    ahead = {}
    level = []
    for view in ways:
        for twin in _parted_behind(ways, view, view):
            if twin not in ahead:
                ahead[twin] = view
                level.append(twin)
    while level:
        later = []
        for twin in level:
            one, other = parted_views(twin)
            after[twin] = _parted_behind(ways, one, other)
            for behind in after[twin]:
                if behind not in ahead:
                    ahead[behind] = twin
                    later.append(behind)
        level = later
    return after, ahead


def _last_first(after):
    """Return the list of the twins, each behind all of its next ones."""
    ahead = turned(after)
    left = {twin: len(others) for twin, others in after.items()}
    ready = [twin for twin in left if left[twin] == 0]
    found = []
    while ready:
        at = ready.pop()
        found.append(at)
        for twin in ahead.get(at, []):
            left[twin] -= 1
            if left[twin] == 0:
                ready.append(twin)
    return found


def heights_in(after):
    """Return the dictionary from the twins, ascending, to their heights."""
    found = {}
    for twin in _last_first(after):
        found[twin] = max([1 + found[behind] for behind in after[twin]], default=0)
    return {twin: found[twin] for twin in sorted(found)}


def _signs_to_a_cut(ground, ways, view):
    """Return the dictionary of the next signs with which one of the gap - 1 places behind a view's can be a cut."""
    found = {}
    level = {(other[0][-1], other): True for other in ways[view]}
    for _ in range(ground.gap() - 1):
        later = {}
        for sign, at in level:
            if last_number(ground) in at[1]:
                found[sign] = True
            else:
                for other in ways[at]:
                    later[sign, other] = True
        level = later
    return found


def _ends_a_span(ground, ways, twin):
    """Return whether two texts can part right behind a twin so that ahead of there the second one has one more cut."""
    one, other = parted_views(twin)
    signs = _signs_to_a_cut(ground, ways, other)
    return any([late[0][-1] != sign for sign in signs for late in ways[one]])


def tolls_in(ground, ways, after):
    """Return the dictionary from the twins, ascending, to their tolls."""
    # Two texts with one past and a cut at one place have the same cuts ahead of it, so at twins they have no new cut
    # alike; nor in the last gap - 1 places ahead of where they part, whose windows reach behind that.
    found = {}
    for twin in _last_first(after):
        most = 1 if _ends_a_span(ground, ways, twin) else 0
        for behind in after[twin]:
            new = 1 if last_number(ground) in behind[2] else 0
            most = max(most, new + found[behind])
        found[twin] = most
    return {twin: found[twin] for twin in sorted(found)}


def _new_at_its_end(ground, twin):
    """Return how many spans, one or none, the second text of a twin ends with its last number's place."""
    return 1 if last_number(ground) in twin[2] else 0


def _worst_beginning(ground, ahead, tolls):
    """Return the most new spans ahead of where two texts part, and a twin right behind like views that leads to it."""
    begun = [twin for twin, thing in ahead.items() if len(thing) == 2]
    return max([(tolls[twin] + _new_at_its_end(ground, twin), twin) for twin in begun])


def most_spans(ground, ways):
    """Return the greatest number of new spans that end ahead of where a text is changed."""
    after, ahead = partings_of(ways)
    return _worst_beginning(ground, ahead, tolls_in(ground, ways, after))[0]


def _row_to_a_toll(ground, after, tolls, twin):
    """Return a list of twins, each a next one of the one ahead, from one on, whose new spans are the toll of that.

    Where the last one's toll is not 0, that span ends right behind it.
    """
    row = [twin]
    while True:
        left = tolls[row[-1]]
        on = [late for late in after[row[-1]] if 0 < left == tolls[late] + _new_at_its_end(ground, late)]
        if on == []:
            return row
        row.append(on[0])


def worst_rows(ground, ways):
    """Return two rows of views of texts that part with the most new spans, and how many views lie ahead of that."""
    after, ahead = partings_of(ways)
    tolls = tolls_in(ground, ways, after)
    _, begun = _worst_beginning(ground, ahead, tolls)
    row = _row_to_a_toll(ground, after, tolls, begun)
    pairs = [parted_views(twin) for twin in row]
    one = [ahead[begun]] + [pair[0] for pair in pairs]
    other = [ahead[begun]] + [pair[1] for pair in pairs]
    if tolls[row[-1]] > 0:
        ending = {view: True for view in ways if last_number(ground) in view[1]}
        other.extend(way_to(ways, other[-1], ending)[1:])
    return one, other, len(pairs) + 1
