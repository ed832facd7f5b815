"""Views: words with the cuts among their places, as texts can have them, and what cannot be told of longer words."""

from owncuts.checks import check_place_up_to, check_whole_place, is_count, is_whole_number
from owncuts.cuts import check_cutting
from owncuts.errors import InvalidTwin, InvalidView
from owncuts.grounds import check_word_of, is_text_of
from owncuts.orders import check_ground_and_order, ranks_in
from owncuts.partings import heights_in, parted_views, partings_of, tolls_in
from owncuts.sites import chosen, row_part, text_sites
from owncuts.ways import (
    blank_view, last_number, levels_along, spelled, view_length, way_through, ways_of, whole_way)


def views(ground, order):
    """Return the ascending list of all views by an order."""
    check_ground_and_order(ground, order)
    return list(ways_of(ground, order))


def _are_numbers(value):
    # True and False are found among the keys as 1 and 0 are, but they are no numbers of a view.
    return isinstance(value, tuple) and all([is_whole_number(number) for number in value])


def _is_view_of(ways, value):
    if not isinstance(value, tuple) or len(value) != 2:
        return False
    return isinstance(value[0], str) and _are_numbers(value[1]) and value in ways


def is_view(ground, order, value):
    """Return whether any object is a view by an order."""
    check_ground_and_order(ground, order)
    return _is_view_of(ways_of(ground, order), value)


def _ways_from(ground, order, view):
    """Return the ways by an order; raise the errors of a call with a ground, an order and a view."""
    check_ground_and_order(ground, order)
    ways = ways_of(ground, order)
    if not _is_view_of(ways, view):
        raise InvalidView(view)
    return ways


def _view_in(ground, order, text, at):
    numbers = [place - at for place in chosen(text_sites(ground, text), ranks_in(order))]
    seen = [number for number in numbers if ground.gap() - 1 <= number <= last_number(ground)]
    return (row_part(ground, text, at, view_length(ground)), tuple(seen))


def view_at(ground, order, text, at):
    """Return the view whose word begins at a place of a text."""
    check_cutting(ground, order, text)
    check_whole_place(at)
    return _view_in(ground, order, text, at)


def text_of_view(ground, order, view):
    """Return any text that has a view, and the position at which its word begins."""
    ways = _ways_from(ground, order, view)
    row, at = whole_way(ground, ways, [view])
    return (spelled(row), at)


def _is_text_and_position(ground, value):
    if not isinstance(value, tuple) or len(value) != 2:
        return False
    return is_text_of(ground, value[0]) and is_count(value[1])


def is_text_of_view(ground, order, view, value):
    """Return whether any object is what text_of_view may return."""
    _ways_from(ground, order, view)
    if not _is_text_and_position(ground, value):
        return False
    text, at = value
    return at + view_length(ground) <= len(text) and _view_in(ground, order, text, at) == view


def next_views(ground, order, view):
    """Return the ascending list of the views that can begin one sign behind a view."""
    return _ways_from(ground, order, view)[view]


def _levels_of_word(ground, ways, word):
    """Return, for each place of a word, the dictionary of the views that begin gap - 1 signs ahead of it."""
    begun = [view for view in ways if view[0][ground.gap() - 1:].startswith(word[:last_number(ground)])]
    signs = [word[at:at + 1] for at in range(last_number(ground), last_number(ground) + len(word))]
    return levels_along(ways, begun, signs)


def _fate(ground, level):
    told = [ground.gap() - 1 in numbers for _, numbers in level]
    if all(told):
        return "cut"
    return "open" if any(told) else "bare"


def fates(ground, order, word):
    """Return the list of the fates of the places of a word."""
    check_ground_and_order(ground, order)
    check_word_of(ground, word)
    return [_fate(ground, level) for level in _levels_of_word(ground, ways_of(ground, order), word)]


def fates_begun(ground, order, text):
    """Return the list of the fates of the places of a text of which no more is known than how it begins."""
    check_cutting(ground, order, text)
    signs = [text[at:at + 1] for at in range(last_number(ground) + len(text))]
    # The blank view ends right ahead of the text; so many signs later a view begins gap - 1 signs ahead of it.
    levels = levels_along(ways_of(ground, order), [blank_view(ground)], signs)
    return [_fate(ground, level) for level in levels[last_number(ground):]]


def _check_word_and_place(ground, order, word, place):
    check_ground_and_order(ground, order)
    check_word_of(ground, word)
    check_place_up_to(place, len(word))


def _text_telling(ground, order, word, place, told):
    """Return any text and a position in it at which a word begins so that a place is a cut, or none, as told."""
    ways = ways_of(ground, order)
    levels = _levels_of_word(ground, ways, word)
    fitting = [view for view in levels[place] if (ground.gap() - 1 in view[1]) == told]
    if fitting == []:
        return None
    row, at = whole_way(ground, ways, way_through(ways, levels, place, fitting[0]))
    return (spelled(row), at + ground.gap() - 1)


def _is_telling(ground, order, word, place, value, told):
    if not _is_text_and_position(ground, value):
        return False
    text, at = value
    if text[at:at + len(word)] != word:
        return False
    return (at + place in chosen(text_sites(ground, text), ranks_in(order))) == told


def text_with_cut(ground, order, word, place):
    """Return any text in which a place of a word is a cut, and where the word begins, None if there is none."""
    _check_word_and_place(ground, order, word, place)
    return _text_telling(ground, order, word, place, True)


def text_without_cut(ground, order, word, place):
    """Return any text in which a place of a word is no cut, and where the word begins, None if there is none."""
    _check_word_and_place(ground, order, word, place)
    return _text_telling(ground, order, word, place, False)


def is_text_with_cut(ground, order, word, place, value):
    """Return whether any object is what text_with_cut may return as a tuple."""
    _check_word_and_place(ground, order, word, place)
    return _is_telling(ground, order, word, place, value, True)


def is_text_without_cut(ground, order, word, place, value):
    """Return whether any object is what text_without_cut may return as a tuple."""
    _check_word_and_place(ground, order, word, place)
    return _is_telling(ground, order, word, place, value, False)


def twins(ground, order):
    """Return the ascending list of all twins by an order."""
    return list(heights(ground, order))


def heights(ground, order):
    """Return the dictionary from all twins by an order, ascending, to their heights."""
    check_ground_and_order(ground, order)
    return heights_in(partings_of(ways_of(ground, order))[0])


def _is_twin_of(after, value):
    if not isinstance(value, tuple) or len(value) != 3:
        return False
    return isinstance(value[0], str) and _are_numbers(value[1]) and _are_numbers(value[2]) and value in after


def _check_twin(after, value):
    if not _is_twin_of(after, value):
        raise InvalidTwin(value)


def _row_of_twins(after, ahead, twin):
    """Return the view behind which two texts part, the twins up to this one, and those as far as its height goes."""
    up_to = [twin]
    while len(ahead[up_to[0]]) == 3:
        up_to.insert(0, ahead[up_to[0]])
    told = heights_in(after)
    on = [twin]
    while told[on[-1]] > 0:
        on.append([behind for behind in after[on[-1]] if told[behind] == told[on[-1]] - 1][0])
    return ahead[up_to[0]], up_to, on[1:]


def texts_of_twin(ground, order, twin):
    """Return any two texts at a twin, alike as far as its height, and the position at which its word begins."""
    check_ground_and_order(ground, order)
    ways = ways_of(ground, order)
    after, ahead = partings_of(ways)
    _check_twin(after, twin)
    view, up_to, on = _row_of_twins(after, ahead, twin)
    one, _ = whole_way(ground, ways, [view] + [parted_views(pair)[0] for pair in up_to + on])
    other, first = whole_way(ground, ways, [view] + [parted_views(pair)[1] for pair in up_to + on])
    return (spelled(one), spelled(other), first + len(up_to))


def is_texts_of_twin(ground, order, twin, value):
    """Return whether any object is what texts_of_twin may return."""
    told = heights(ground, order)
    _check_twin(told, twin)
    if not isinstance(value, tuple) or len(value) != 3:
        return False
    text, late, at = value
    if not is_text_of(ground, text) or not is_text_of(ground, late) or not is_count(at):
        return False
    behind = at + view_length(ground) + told[twin]
    if behind > min(len(text), len(late)) or text[:behind] != late[:behind]:
        return False
    return [_view_in(ground, order, text, at), _view_in(ground, order, late, at)] == parted_views(twin)


def tolls(ground, order):
    """Return the dictionary from all twins by an order, ascending, to their tolls."""
    check_ground_and_order(ground, order)
    ways = ways_of(ground, order)
    return tolls_in(ground, ways, partings_of(ways)[0])
