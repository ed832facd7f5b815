"""A desk: a store on which commands are made, taken back and made again."""

from owncuts.checks import check_new_name
from owncuts.edits import check_edit_in, text_edited
from owncuts.errors import InvalidDesk, InvalidRecord, NothingToRedo, NothingToUndo, Refused
from owncuts.grounds import check_text_of
from owncuts.meeting import catch_up, caught_up
from owncuts.store import (
    Store, names_in, numbers_in, row_in, with_name, with_version, without_unused, without_version, words_lacking,
    words_unused)

# The words of a record's commands, and how many things stand behind each.
COMMANDS = {"put": 2, "change": 2, "drop": 2, "sweep": 0, "call": 2, "take": 1}


class Trial:
    """A block; when it is left, its desk is as it was when the block was entered."""

    def __init__(self, desk):
        self._desk = desk
        self._state = None

    def __enter__(self):
        self._state = self._desk._state
        return self._desk

    def __exit__(self, kind, value, trace):
        desk = self._desk
        desk._state = self._state


class Desk:
    """A store, and the commands that led to it; what is asked changes neither."""

    def __init__(self, ground, order):
        # The store as it is now; the commands made, each with the store ahead of it; those taken back, each with the
        # store behind it, the next one to be made again last. Nothing in the tuple is ever changed: a block keeps it.
        self._state = (Store(ground, order), (), ())

    def store(self):
        return self._state[0]

    def names(self):
        return names_in(self.store())

    def versions(self, name):
        return numbers_in(self.store(), name)

    def text_in(self, name, number):
        return "".join(row_in(self.store(), name, number))

    def unused(self):
        return words_unused(self.store())

    def _do(self, command, later):
        """Make a command that leads to a later store."""
        store, done, _ = self._state
        self._state = (later, done + ((command, store),), ())

    def _do_with_version(self, command, name, text):
        """Make a command that puts a text under a name; return its number, and its pieces that were not kept."""
        ahead = self.store()
        self._do(command, with_version(ahead, name, text, []))
        number = numbers_in(self.store(), name)[-1]
        return (number, words_lacking(ahead, row_in(self.store(), name, number)))

    def put(self, name, text):
        check_new_name(name)
        check_text_of(self.store().ground(), text)
        return self._do_with_version(("put", name, text), name, text)

    def change(self, name, edit):
        numbers = numbers_in(self.store(), name)
        if numbers == []:
            raise Refused(name)
        text = self.text_in(name, numbers[-1])
        check_edit_in(self.store().ground(), text, edit)
        return self._do_with_version(("change", name, edit), name, text_edited(text, edit))

    def drop(self, name, number):
        self._do(("drop", name, number), without_version(self.store(), name, number))

    def sweep(self):
        unused = words_unused(self.store())
        self._do(("sweep",), without_unused(self.store()))
        return unused

    def call(self, name, other):
        self._do(("call", name, other), with_name(self.store(), name, other))

    def take(self, sent):
        later = caught_up(self.store(), sent)
        self._do(("take", _copied(sent)), later)
        return len(sent)

    def newer(self, store):
        return catch_up(self.store(), store)

    def touched(self, name):
        numbers = numbers_in(self.store(), name)
        if len(numbers) < 2:
            raise Refused(name)
        had = {word: True for word in row_in(self.store(), name, numbers[-2])}
        words = sorted(set(row_in(self.store(), name, numbers[-1])))
        return ([word for word in words if word in had], [word for word in words if word not in had])

    def trial(self):
        return Trial(self)

    def attempt(self, action):
        with self.trial() as desk:
            return action(desk)

    def copy(self):
        other = Desk(self.store().ground(), self.store().order())
        other._state = self._state
        return other

    def undo(self):
        store, done, undone = self._state
        if done == ():
            raise NothingToUndo()
        command, ahead = done[-1]
        self._state = (ahead, done[:-1], undone + ((command, store),))

    def redo(self):
        store, done, undone = self._state
        if undone == ():
            raise NothingToRedo()
        command, later = undone[-1]
        self._state = (later, done + ((command, store),), undone[:-1])

    def record(self):
        commands = [command for command, _ in self._state[1]]
        # Only what was taken holds lists: whoever gets them may change them.
        return [("take", _copied(command[1])) if command[0] == "take" else command for command in commands]


def _copied(sent):
    """Return a list of tuples (name, parcel) with the parcels' lists made anew."""
    return [(name, (list(words), list(items))) for name, (words, items) in sent]


def check_desk(value):
    if not isinstance(value, Desk):
        raise InvalidDesk(value)


def made(desk, command):
    """Make a command, or ask, as a tuple of a word and what stands behind it tells; return the answer."""
    actions = {
        "put": desk.put, "change": desk.change, "drop": desk.drop, "sweep": desk.sweep, "call": desk.call,
        "take": desk.take, "undo": desk.undo, "redo": desk.redo, "names": desk.names, "versions": desk.versions,
        "text_in": desk.text_in, "unused": desk.unused, "touched": desk.touched}
    action = actions[command[0]]
    things = command[1:]
    return action(*things)


def _is_recorded(value):
    if not isinstance(value, tuple) or value == () or not isinstance(value[0], str):
        return False
    return value[0] in COMMANDS and len(value) == 1 + COMMANDS[value[0]]


def replayed(desk, record):
    """Return a copy of a desk on which the commands of a record are then made."""
    check_desk(desk)
    if not isinstance(record, list) or not all([_is_recorded(command) for command in record]):
        raise InvalidRecord(record)
    other = desk.copy()
    for command in record:
        made(other, command)
    return other
