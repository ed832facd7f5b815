"""A store: under names, versions of texts, of which it keeps each piece once."""

from owncuts.checks import check_new_name, is_count, is_name
from owncuts.edits import edit_between
from owncuts.errors import InvalidHistory, InvalidName, InvalidNumber, InvalidPieces, InvalidStore
from owncuts.grounds import check_ground, check_text_of, check_word_of, is_text_of
from owncuts.orders import check_ground_and_order, ranks_in
from owncuts.pieces import is_short_or_long, pieces_by, size_of, told_of


class Store:
    """A ground, an order of it, a history of texts, and the words that are kept; it never changes."""

    def __init__(self, ground, order):
        check_ground_and_order(ground, order)
        self._ground = ground
        self._ranks = ranks_in(order)
        # The pieces of each version stand for its text, None for one that was dropped.
        self._rows = {}
        self._kept = {}

    def __eq__(self, other):
        return (isinstance(other, Store) and self._ground == other._ground and self._ranks == other._ranks
                and self._rows == other._rows and self._kept == other._kept)

    def ground(self):
        return self._ground

    def order(self):
        return list(self._ranks)

    def history(self):
        return {name: [_text_of_row(row) for row in rows] for name, rows in self._rows.items()}

    def kept(self):
        return sorted(self._kept)


def _text_of_row(row):
    return None if row is None else "".join(row)


def _remade(store, rows, kept):
    """Return the store of the ground and the order of another one that has these rows and keeps these words."""
    new = Store(store.ground(), store.order())
    new._rows = {name: rows[name] for name in sorted(rows)}
    new._kept = {word: True for word in kept}
    return new


def check_store(value):
    if not isinstance(value, Store):
        raise InvalidStore(value)


def _check_name_in(store, name):
    if not is_name(name) or name not in store._rows:
        raise InvalidName(name)


def _check_version(store, name, number):
    _check_name_in(store, name)
    rows = store._rows[name]
    if not is_count(number) or number >= len(rows) or rows[number] is None:
        raise InvalidNumber(number)


def names_in(store):
    return list(store._rows)


def numbers_in(store, name):
    """Return the ascending list of the numbers of the versions of a name that are there."""
    _check_name_in(store, name)
    return [number for number, row in enumerate(store._rows[name]) if row is not None]


def row_in(store, name, number):
    """Return the list of the pieces of a version that is there."""
    _check_version(store, name, number)
    return list(store._rows[name][number])


def rows_there(store):
    """Return the dictionary from the tuples (name, number) of the versions that are there to their pieces."""
    return {(name, number): list(row) for name, rows in store._rows.items()
            for number, row in enumerate(rows) if row is not None}


def _pieces_in(rows):
    return [word for there in rows.values() for row in there if row is not None for word in row]


def _row_of(store, text):
    return pieces_by(store.ground(), store._ranks, text)


def with_version(store, name, text, more):
    """Return the store with one more version of a name that keeps some words, too."""
    row = _row_of(store, text)
    rows = {**store._rows, name: store._rows.get(name, []) + [row]}
    return _remade(store, rows, store.kept() + row + more)


def without_version(store, name, number):
    """Return the store with None in the place of a version that is there."""
    _check_version(store, name, number)
    left = list(store._rows[name])
    left[number] = None
    return _remade(store, {**store._rows, name: left}, store.kept())


def with_name(store, name, other):
    """Return the store with the versions of a name under another one."""
    _check_name_in(store, name)
    if not is_name(other) or other in store._rows:
        raise InvalidName(other)
    rows = {other if word == name else word: row for word, row in store._rows.items()}
    return _remade(store, rows, store.kept())


def without_unused(store):
    """Return the store that keeps nothing but the pieces of the texts in its history."""
    return _remade(store, store._rows, _pieces_in(store._rows))


def words_unused(store):
    """Return the ascending list of what is kept and no piece of a text in the history."""
    used = {word: True for word in _pieces_in(store._rows)}
    return [word for word in store.kept() if word not in used]


def words_lacking(store, words):
    """Return the ascending list of those of some words that a store does not keep."""
    return [word for word in sorted(set(words)) if word not in store._kept]


def is_history(ground, value):
    """Return whether any object is a history of texts of a ground."""
    check_ground(ground)
    if not isinstance(value, dict) or not all([is_name(name) for name in value]):
        return False
    if not all([isinstance(texts, list) and texts != [] for texts in value.values()]):
        return False
    return all([text is None or is_text_of(ground, text) for texts in value.values() for text in texts])


def store_of(ground, order, history, more):
    """Return the store with a history that keeps the pieces of its texts and some more words."""
    empty = Store(ground, order)
    if not is_history(ground, history):
        raise InvalidHistory(history)
    if not isinstance(more, list) or not all([is_short_or_long(ground, word) for word in more]):
        raise InvalidPieces(more)
    rows = {}
    for name, texts in history.items():
        rows[name] = [None if text is None else _row_of(empty, text) for text in texts]
    return _remade(empty, rows, _pieces_in(rows) + more)


def names(store):
    """Return the ascending list of the names in the history of a store."""
    check_store(store)
    return names_in(store)


def versions(store, name):
    """Return the ascending list of the numbers of the versions of a name that are there."""
    check_store(store)
    return numbers_in(store, name)


def text_in(store, name, number):
    """Return the text of a version."""
    check_store(store)
    return "".join(row_in(store, name, number))


def put(store, name, text):
    """Return the store with one more version of a name, perhaps of a new one."""
    check_store(store)
    check_new_name(name)
    check_text_of(store.ground(), text)
    return with_version(store, name, text, [])


def drop(store, name, number):
    """Return the store with None in the place of a version, which goes on keeping its pieces."""
    check_store(store)
    return without_version(store, name, number)


def swept(store):
    """Return the store that keeps nothing but the pieces of the texts in its history."""
    check_store(store)
    return without_unused(store)


def called(store, name, other):
    """Return the store with the versions of a name under another name instead."""
    check_store(store)
    return with_name(store, name, other)


def unused(store):
    """Return the ascending list of what is kept and no piece of a text in the history."""
    check_store(store)
    return words_unused(store)


def new_pieces(store, text):
    """Return the ascending list of the pieces of a text that a store does not keep."""
    check_store(store)
    check_text_of(store.ground(), text)
    return words_lacking(store, _row_of(store, text))


def uses(store, word):
    """Return the ascending list of the tuples (name, number) of the versions of which a word is a piece."""
    check_store(store)
    check_word_of(store.ground(), word)
    return [version for version, row in rows_there(store).items() if word in row]


def recipe(store, name, number):
    """Return the list of the positions, in what the store keeps, of the pieces of a version."""
    check_store(store)
    row = row_in(store, name, number)
    positions = {word: position for position, word in enumerate(store.kept())}
    return [positions[word] for word in row]


def sizes(store):
    """Return how many signs there are in all texts of the history, and the size of all that is kept, told."""
    check_store(store)
    signs = sum([len(word) for word in _pieces_in(store._rows)])
    return (signs, size_of(store.ground(), [told_of(store.ground(), word) for word in store.kept()]))


def edits_of(store, name):
    """Return the list of the edits that lead from each version of a name that is there to the next one that is."""
    check_store(store)
    texts = ["".join(row_in(store, name, number)) for number in numbers_in(store, name)]
    return [edit_between(text, late) for text, late in zip(texts, texts[1:])]
