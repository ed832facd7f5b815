"""Two stores: what the one has to send, so that the other one has the same texts."""

from owncuts.checks import check_new_name, is_ascending, is_count, is_name
from owncuts.errors import InvalidParcel, Refused
from owncuts.pieces import is_short_or_long
from owncuts.store import check_store, names_in, numbers_in, row_in, rows_there, with_version, words_lacking


def _check_stores(one, other):
    check_store(one)
    check_store(other)


def _are_of_one_kind(one, other):
    return one.ground() == other.ground() and one.order() == other.order()


def _check_one_kind(one, other):
    if not _are_of_one_kind(one, other):
        raise Refused(other)


def _row_to_send(one, other, name, number):
    """Return the pieces of a version of the first store; raise the errors of a call with these arguments."""
    _check_stores(one, other)
    row = row_in(one, name, number)
    _check_one_kind(one, other)
    return row


def lacking(one, other, name, number):
    """Return the ascending list of the pieces of a version of the first store that the other one does not keep."""
    row = _row_to_send(one, other, name, number)
    return words_lacking(other, row)


def _is_copy(rows, item):
    _, name, number, first, many = item
    if not is_name(name) or not is_count(number) or not is_count(first) or not is_count(many):
        return False
    return (name, number) in rows and 1 <= many <= len(rows[name, number]) - first


def _is_item(rows, words, item):
    if not isinstance(item, tuple) or len(item) not in (2, 5):
        return False
    if len(item) == 5:
        return item[0] == "copy" and _is_copy(rows, item)
    return item[0] == "piece" and is_count(item[1]) and item[1] < len(words)


def is_parcel(store, value):
    """Return whether any object is a parcel for a store."""
    check_store(store)
    if not isinstance(value, tuple) or len(value) != 2:
        return False
    words, items = value
    if not isinstance(words, list) or not isinstance(items, list):
        return False
    if not all([is_short_or_long(store.ground(), word) for word in words]) or not is_ascending(words):
        return False
    if len(words_lacking(store, words)) != len(words):
        return False
    rows = rows_there(store)
    every = store.kept() + words
    return all([_is_item(rows, every, item) for item in items])


def _check_parcel(store, value):
    if not is_parcel(store, value):
        raise InvalidParcel(value)


def _told(store, parcel):
    words, items = parcel
    rows = rows_there(store)
    every = sorted(store.kept() + words)
    found = []
    for item in items:
        if len(item) == 2:
            found.append(every[item[1]])
        else:
            _, name, number, first, many = item
            found.extend(rows[name, number][first:first + many])
    return found


def told_by(store, parcel):
    """Return the list of the pieces that the items of a parcel tell."""
    check_store(store)
    _check_parcel(store, parcel)
    return _told(store, parcel)


def _with_parcel(store, name, parcel):
    return with_version(store, name, "".join(_told(store, parcel)), parcel[0])


def unpacked(store, name, parcel):
    """Return the store with the text that a parcel tells as one more version of a name, and with its pieces."""
    check_store(store)
    check_new_name(name)
    _check_parcel(store, parcel)
    return _with_parcel(store, name, parcel)


def _longest_copies(store, row):
    """Return a list of tuples (first, behind, where), which stand one behind the other, that makes up a list of pieces.

    Each tells, as where, the name, the number and the first position of the longest stretch of a version of a store
    that is the same as what begins there, or None if one piece is all. So they are as few as can be: what is shorter
    ends no later, and each part of a stretch stands where all of it does.
    """
    rows = rows_there(store)
    begun = {}
    for (name, number), there in rows.items():
        for at, piece in enumerate(there):
            begun.setdefault(piece, []).append((name, number, at))
    found = []
    first = 0
    while first < len(row):
        best = None
        many = 1
        for name, number, at in begun.get(row[first], []):
            there = rows[name, number]
            while first + many < len(row) and there[at:at + many + 1] == row[first:first + many + 1]:
                best = (name, number, at)
                many += 1
        found.append((first, first + many, best))
        first += many
    return found


def _parcel_with(store, row):
    """Return a parcel for a store, with the fewest items, that tells a list of pieces."""
    words = words_lacking(store, row)
    positions = {word: position for position, word in enumerate(sorted(store.kept() + words))}
    items = []
    for first, behind, where in _longest_copies(store, row):
        if where is None:
            items.append(("piece", positions[row[first]]))
        else:
            name, number, at = where
            items.append(("copy", name, number, at, behind - first))
    return (words, items)


def parcel_for(one, other, name, number):
    """Return any parcel, with the fewest items, that gives the second store a version of the first one."""
    row = _row_to_send(one, other, name, number)
    return _parcel_with(other, row)


def is_parcel_for(one, other, name, number, value):
    """Return whether any object is what parcel_for may return."""
    _check_stores(one, other)
    row = row_in(one, name, number)
    if not _are_of_one_kind(one, other) or not is_parcel(other, value):
        return False
    # What is told has all pieces that are lacking: so the parcel has just these exactly if it has no more of them.
    if _told(other, value) != row or len(value[0]) != len(words_lacking(other, row)):
        return False
    return len(value[1]) == len(_longest_copies(other, row))


def fewest_items(one, other, name, number):
    """Return how many items a parcel for a version has at least."""
    row = _row_to_send(one, other, name, number)
    return len(_longest_copies(other, row))


def bars(one, other, name, number):
    """Return any longest list of stretches of a version's pieces that stand so in no version of the second store."""
    row = _row_to_send(one, other, name, number)
    return [(first, behind) for first, behind, _ in _longest_copies(other, row)[:-1]]


def _stands_in(rows, part):
    """Return whether a list of pieces stands so, one behind the other, in one of some lists."""
    many = len(part)
    return any([row[at:at + many] == part for row in rows.values() for at in range(len(row))])


def _are_pairs_within(value, many):
    """Return whether any object is a list of tuples of two ascending positions below a number, each behind the last."""
    if not isinstance(value, list) or not all([isinstance(pair, tuple) and len(pair) == 2 for pair in value]):
        return False
    if not all([is_count(first) and is_count(last) and first < last < many for first, last in value]):
        return False
    return all([one[1] <= other[0] for one, other in zip(value, value[1:])])


def are_bars(one, other, name, number, value):
    """Return whether any object is what bars may return."""
    _check_stores(one, other)
    row = row_in(one, name, number)
    if not _are_of_one_kind(one, other) or not _are_pairs_within(value, len(row)):
        return False
    if len(value) != max(len(_longest_copies(other, row)) - 1, 0):
        return False
    rows = rows_there(other)
    return not any([_stands_in(rows, row[first:last + 1]) for first, last in value])


def _texts_there(store):
    """Return the dictionary from the names that have versions that are there to the dictionaries of their texts."""
    found = {}
    for (name, _), row in rows_there(store).items():
        texts = found.setdefault(name, {})
        texts["".join(row)] = True
    return found


def catch_up(one, other):
    """Return the list of tuples (name, parcel) that gives the second store all texts of the first one."""
    _check_stores(one, other)
    _check_one_kind(one, other)
    now = other
    had = _texts_there(other)
    sent = []
    for name in names_in(one):
        texts = had.setdefault(name, {})
        for number in numbers_in(one, name):
            row = row_in(one, name, number)
            if "".join(row) not in texts:
                texts["".join(row)] = True
                parcel = _parcel_with(now, row)
                sent.append((name, parcel))
                now = _with_parcel(now, name, parcel)
    return sent


def caught_up(store, sent):
    """Return the store with all parcels of a list of tuples (name, parcel) unpacked, one after the other."""
    check_store(store)
    if not isinstance(sent, list):
        raise InvalidParcel(sent)
    now = store
    for pair in sent:
        if not isinstance(pair, tuple) or len(pair) != 2 or not is_name(pair[0]) or not is_parcel(now, pair[1]):
            raise InvalidParcel(sent)
        now = _with_parcel(now, pair[0], pair[1])
    return now


def same_texts(one, other):
    """Return whether two stores have the same texts under each name that has any."""
    _check_stores(one, other)
    _check_one_kind(one, other)
    return _texts_there(one) == _texts_there(other)
