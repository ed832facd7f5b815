"""Edits of texts: what they change of cuts, spans and pieces, and the most that any edit can change by an order."""

from owncuts.checks import check_text, is_count, is_text
from owncuts.cuts import check_cutting
from owncuts.errors import InvalidEdit
from owncuts.grounds import check_text_of, is_text_of
from owncuts.orders import mirrored_order, ranks_in
from owncuts.partings import most_spans, worst_rows
from owncuts.pieces import pieces_by
from owncuts.rules import rule_seeing
from owncuts.sites import chosen, text_sites
from owncuts.views import heights, texts_of_twin
from owncuts.ways import spelled, view_length, ways_of, whole_way


def is_edit_of(text, value):
    """Return whether any object is an edit of a text."""
    if not isinstance(value, tuple) or len(value) != 3:
        return False
    at, out, put = value
    return is_count(at) and is_count(out) and at + out <= len(text) and is_text(put)


def _is_edit_in(ground, text, value):
    return is_edit_of(text, value) and is_text_of(ground, value[2])


def check_edit_in(ground, text, value):
    """Raise InvalidEdit unless the object is an edit of a text that puts a text of a ground."""
    if not _is_edit_in(ground, text, value):
        raise InvalidEdit(value)


def _check_edit(text, edit):
    check_text(text)
    if not is_edit_of(text, edit):
        raise InvalidEdit(edit)


def text_edited(text, edit):
    at, out, put = edit
    return text[:at] + put + text[at + out:]


def edited(text, edit):
    """Return a text with an edit made."""
    _check_edit(text, edit)
    return text_edited(text, edit)


def edit_back(text, edit):
    """Return the edit of the edited text that gives the text again and keeps what the edit kept."""
    _check_edit(text, edit)
    at, out, put = edit
    return (at, len(put), text[at:at + out])


def _alike_ahead(one, other):
    """Return with how many things alike two texts, or two lists, begin."""
    for at, (thing, late) in enumerate(zip(one, other)):
        if thing != late:
            return at
    return min(len(one), len(other))


def edit_between(text, late):
    """Return the edit that makes one text the other, and keeps as much at the beginning, then at the end, as any."""
    check_text(text)
    check_text(late)
    at = _alike_ahead(text, late)
    behind = _alike_ahead(text[at:][::-1], late[at:][::-1])
    return (at, len(text) - at - behind, late[at:len(late) - behind])


def _check_editing(ground, order, text, edit):
    check_cutting(ground, order, text)
    check_edit_in(ground, text, edit)


def _changed(ground, ranks, text, edit):
    at, out, put = edit
    late = text_edited(text, edit)
    had = {place: True for place in chosen(text_sites(ground, text), ranks)}
    has = {place: True for place in chosen(text_sites(ground, late), ranks)}
    behind = at + len(put)
    ahead = [number for number in range(at + 1) if (at - number in had) != (at - number in has)]
    kept = range(len(late) - behind + 1)
    return ahead, [number for number in kept if (at + out + number in had) != (behind + number in has)]


def changed_cuts(ground, order, text, edit):
    """Return the distances, ahead of an edit and behind it, at which places are cuts in just one of two texts."""
    _check_editing(ground, order, text, edit)
    return _changed(ground, ranks_in(order), text, edit)


def _spans(ground, ranks, text):
    inside = [place for place in chosen(text_sites(ground, text), ranks) if 0 <= place <= len(text)]
    return list(zip(inside, inside[1:]))


def spans(ground, order, text):
    """Return the ascending list of the tuples of two cuts side by side from the beginning of a text to its end."""
    check_cutting(ground, order, text)
    return _spans(ground, ranks_in(order), text)


def _new(ground, ranks, text, edit):
    at, out, put = edit
    had = {span: True for span in _spans(ground, ranks, text)}
    has = _spans(ground, ranks, text_edited(text, edit))
    behind = at + len(put)
    more = out - len(put)
    ahead = [span for span in has if span[1] <= at and span not in had]
    return ahead, [(one, other) for one, other in has if one >= behind and (one + more, other + more) not in had]


def new_spans(ground, order, text, edit):
    """Return the spans of an edited text, ahead of the edit and behind it, that are none of the text."""
    _check_editing(ground, order, text, edit)
    return _new(ground, ranks_in(order), text, edit)


def _farthest_twin(ground, order):
    """Return how far from an edit it can change a cut ahead of it, and a twin that shows it, with its height."""
    long = view_length(ground)
    # There always are twins: by no order the cuts can be told from what stands ahead of their windows' ends.
    return max([(long - sorted(set(first) ^ set(second))[0] + height, (word, first, second), height)
                for (word, first, second), height in heights(ground, order).items()])


def farthest(ground, order):
    """Return how far ahead of an edit, and behind it, any edit can change a cut."""
    late = mirrored_order(ground, order)
    return (_farthest_twin(ground, order)[0], _farthest_twin(ground, late)[0])


def _edit_of_both_sides(left, right):
    """Return a text and an edit of it whose sides are two pairs of texts, each alike up to a place.

    The right pair is told read backwards. Each text begins and ends with a blank view: no side changes the other one.
    """
    one, other, ahead = left
    late, later, behind = right
    text = one + late[::-1]
    put = other + later[::-1]
    return (text, (ahead, len(text) - ahead - behind, put[ahead:len(put) - behind]))


def _farthest_texts(ground, order):
    _, twin, height = _farthest_twin(ground, order)
    one, other, at = texts_of_twin(ground, order, twin)
    return one, other, at + view_length(ground) + height


def farthest_edit(ground, order):
    """Return any text and an edit of it that changes cuts as far ahead of it, and behind it, as any edit can."""
    right = _farthest_texts(ground, mirrored_order(ground, order))
    return _edit_of_both_sides(_farthest_texts(ground, order), right)


def _is_text_and_edit(ground, value):
    if not isinstance(value, tuple) or len(value) != 2:
        return False
    return is_text_of(ground, value[0]) and _is_edit_in(ground, value[0], value[1])


def is_farthest_edit(ground, order, value):
    """Return whether any object is what farthest_edit may return."""
    ahead, behind = farthest(ground, order)
    if not _is_text_and_edit(ground, value):
        return False
    text, edit = value
    lists = _changed(ground, ranks_in(order), text, edit)
    return ahead in lists[0] and behind in lists[1]


def most_new(ground, order):
    """Return how many new spans there can be, at most, ahead of an edit and behind it."""
    late = mirrored_order(ground, order)
    return (most_spans(ground, ways_of(ground, order)), most_spans(ground, ways_of(ground, late)))


def _worst_texts(ground, order):
    """Return two texts that are alike up to a place, the second with the most new spans ahead of it, and the place."""
    ways = ways_of(ground, order)
    rows = worst_rows(ground, ways)
    one, first = whole_way(ground, ways, rows[0])
    other, _ = whole_way(ground, ways, rows[1])
    # Something that is cut stands far ahead: so the first new cut ends a span.
    begun = ground.signs()[0] * view_length(ground) + ground.signs()[1]
    return begun + spelled(one), begun + spelled(other), len(begun) + first + rows[2] - 1 + view_length(ground)


def worst_edit(ground, order):
    """Return any text and an edit of it with as many new spans, ahead of it and behind it, as any edit can make."""
    right = _worst_texts(ground, mirrored_order(ground, order))
    return _edit_of_both_sides(_worst_texts(ground, order), right)


def is_worst_edit(ground, order, value):
    """Return whether any object is what worst_edit may return."""
    most = most_new(ground, order)
    if not _is_text_and_edit(ground, value):
        return False
    text, edit = value
    ahead, behind = _new(ground, ranks_in(order), text, edit)
    return (len(ahead), len(behind)) == most


def alike_pieces(ground, order, text, late):
    """Return with how many pieces alike the pieces of two texts begin, and with how many what is left of them ends."""
    check_cutting(ground, order, text)
    check_text_of(ground, late)
    ranks = ranks_in(order)
    one = pieces_by(ground, ranks, text)
    other = pieces_by(ground, ranks, late)
    ahead = _alike_ahead(one, other)
    return (ahead, _alike_ahead(one[ahead:][::-1], other[ahead:][::-1]))


def least_look(ground, order):
    """Return how many signs ahead of a place, and behind it, tell in every text whether it is a cut, and no fewer."""
    ahead, behind = farthest(ground, order)
    return (behind + 1, ahead + 1)


def least_rule(ground, order):
    """Return the rule of so many signs ahead of a place and behind it whose marks are the cuts by an order."""
    ahead, behind = least_look(ground, order)
    return rule_seeing(ground, order, ahead + behind, ahead)
