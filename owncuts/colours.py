"""Graphs, told as a dictionary from each thing to the dictionary of the things near it: colours and near groups."""


def _grown_group(near, group, left, best):
    """Return a greatest group made of one and some of what is left, all of it near to it, or the best one so far."""
    for at, thing in enumerate(left):
        if len(group) + len(left) - at <= len(best):
            return best
        rest = [other for other in left[at + 1:] if other in near[thing]]
        best = _grown_group(near, group + [thing], rest, best)
    if len(group) > len(best):
        return group
    return best


def greatest_near_group(near):
    """Return a greatest list of things each two of which are near, in their sequence."""
    return _grown_group(near, [], list(near), [])


def _most_bound(near, told):
    """Return of the things without a colour one with the most unlike colours near it, of such one near the most."""
    best = None
    most = (-1, -1)
    for thing in near:
        if thing not in told:
            bound = (len(set([told[other] for other in near[thing] if other in told])), len(near[thing]))
            if bound > most:
                best = thing
                most = bound
    return best


def _colour_rest(near, told, many):
    """Tell the rest of the things colours, too, and return whether that could be done with so many."""
    if len(told) == len(near):
        return True
    thing = _most_bound(near, told)
    barred = [told[other] for other in near[thing] if other in told]
    used = max(list(told.values()), default=-1) + 1
    # Of the colours that no thing has yet one is as good as another one.
    for colour in range(min(used + 1, many)):
        if colour not in barred:
            told[thing] = colour
            if _colour_rest(near, told, many):
                return True
            del told[thing]
    return False


def fewest_colours(near):
    """Return a dictionary from the things to the fewest colours, from 0 on, of which no two near things share one."""
    many = len(greatest_near_group(near))
    told = {}
    while not _colour_rest(near, told, many):
        many += 1
    return told
