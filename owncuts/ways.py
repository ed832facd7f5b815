"""Ways: how views by an order can follow one another, sign by sign, in texts between their endless rows."""

from owncuts.orders import ranks_in


def view_length(ground):
    return 4 * ground.gap() - 5


def last_number(ground):
    """Return the greatest number that a view may tell; the least one is gap - 1."""
    return 3 * ground.gap() - 4


def blank_view(ground):
    """Return the view that is found anywhere far ahead of a text, and far behind it."""
    return (ground.signs()[0] * view_length(ground), ())


def _is_settled(ground, ranks, row, numbers):
    """Return whether these may be the cuts near the place in the middle of a row, one sign longer than a view."""
    gap = ground.gap()
    windows = {number: row[number - gap + 1:number + gap - 1] for number in numbers + (2 * gap - 2,)}
    middle = windows[2 * gap - 2]
    if middle not in ranks or 2 * gap - 2 in numbers:
        return True
    return any([ranks[windows[number]] < ranks[middle] for number in numbers])


def _next_tries(ground, ranks, view):
    """Return the ascending list of what may lie one sign behind a view, as far as the signs of both show it."""
    word, numbers = view
    new = last_number(ground) + 1
    kept = tuple([number - 1 for number in numbers if number >= ground.gap()])
    found = []
    for sign in ground.signs():
        row = word + sign
        tries = [(numbers, kept)]
        if row[-ground.width():] in ranks and (numbers == () or new - numbers[-1] >= ground.gap()):
            tries.append((numbers + (new,), kept + (new - 1,)))
        for told, later in tries:
            if _is_settled(ground, ranks, row, told):
                found.append((row[1:], later))
    return found


def turned(after):
    """Return the dictionary from each thing to the list of those from which a step leads to it."""
    ahead = {}
    for thing, others in after.items():
        for other in others:
            ahead.setdefault(other, []).append(thing)
    return ahead


def leading_to(after, goal):
    """Return the dictionary of the things from which steps lead to a goal."""
    ahead = turned(after)
    found = {goal: True}
    waiting = [goal]
    while waiting:
        at = waiting.pop()
        for other in ahead.get(at, []):
            if other not in found:
                found[other] = True
                waiting.append(other)
    return found


def ways_of(ground, order):
    """Return the dictionary from all views by an order, ascending, to the ascending lists of their next ones."""
    ranks = ranks_in(order)
    blank = blank_view(ground)
    after = {}
    waiting = [blank]
    while waiting:
        view = waiting.pop()
        if view not in after:
            after[view] = _next_tries(ground, ranks, view)
            waiting.extend(after[view])
    # What cannot go on to the blank view told some place a cut, or none, against what came behind it.
    lasting = leading_to(after, blank)
    return {view: [other for other in after[view] if other in lasting] for view in sorted(lasting)}


def way_to(ways, first, goals):
    """Return a shortest list of things, each a next one of the one ahead, from the first one to one of the goals.

    One of them has to be found; `goals` is a dictionary with them as keys.
    """
    ahead = {first: None}
    level = [first]
    reached = [first] if first in goals else []
    while reached == []:
        later = []
        for thing in level:
            for other in ways[thing]:
                if other not in ahead:
                    ahead[other] = thing
                    later.append(other)
        reached = [thing for thing in later if thing in goals]
        level = later
    row = reached[:1]
    while row[-1] != first:
        row.append(ahead[row[-1]])
    return row[::-1]


def whole_way(ground, ways, row):
    """Return a list of views from the blank one through a row of views to the blank one, and where the row begins."""
    ahead = way_to(ways, blank_view(ground), {row[0]: True})
    behind = way_to(ways, row[-1], {blank_view(ground): True})
    return ahead + row[1:] + behind[1:], len(ahead) - 1


def spelled(row):
    """Return the text that the words of some views, each one sign behind the one ahead, make together."""
    return row[0][0] + "".join([word[-1] for word, _ in row[1:]])


def levels_along(ways, begun, signs):
    """Return the dictionaries of the views that can stand there, from some views on, while such signs are added.

    An empty sign lets any sign be added.
    """
    levels = [{view: True for view in begun}]
    for sign in signs:
        later = [other for view in levels[-1] for other in ways[view] if other[0].endswith(sign)]
        levels.append({view: True for view in later})
    for at in range(len(signs) - 1, -1, -1):
        behind = levels[at + 1]
        levels[at] = {view: True for view in levels[at] if any([late in behind for late in ways[view]])}
    return levels


def way_through(ways, levels, at, view):
    """Return a list of views, each a next one of the one ahead, one of each level, with this one at its position."""
    row = [view]
    for level in levels[at + 1:]:
        row.append([other for other in ways[row[-1]] if other in level][0])
    for level in levels[:at][::-1]:
        row.insert(0, [other for other in level if row[0] in ways[other]][0])
    return row
