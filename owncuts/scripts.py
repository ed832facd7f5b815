"""Scripts: lists of commands that are played on a desk, and what they leave behind."""

from owncuts.checks import is_count, is_name, is_text
from owncuts.desk import Desk, check_desk, made
from owncuts.errors import CutError, InvalidOrder, InvalidScript
from owncuts.grounds import check_ground
from owncuts.orders import check_ground_and_order, check_order, is_order

# The words of a script's commands, and what has to stand behind each.
COMMANDS = {
    "put": ("name", "text"), "change": ("name", "edit"), "drop": ("name", "number"), "sweep": (),
    "call": ("name", "name"), "undo": (), "redo": (), "names": (), "versions": ("name",), "text_in": ("name", "number"),
    "unused": (), "touched": ("name",), "try": ("script",)}


def _is_edit(value):
    if not isinstance(value, tuple) or len(value) != 3:
        return False
    return is_count(value[0]) and is_count(value[1]) and is_text(value[2])


def _is_of_kind(kind, value):
    if kind == "name":
        return is_name(value)
    if kind == "text":
        return is_text(value)
    if kind == "number":
        return is_count(value)
    if kind == "edit":
        return _is_edit(value)
    return _is_script(value)


def _is_command(value):
    if not isinstance(value, tuple) or value == () or not isinstance(value[0], str) or value[0] not in COMMANDS:
        return False
    kinds = COMMANDS[value[0]]
    return len(value) == 1 + len(kinds) and all([_is_of_kind(kind, thing) for kind, thing in zip(kinds, value[1:])])


def _is_script(value):
    return isinstance(value, list) and all([_is_command(command) for command in value])


def _check_script(value):
    if not _is_script(value):
        raise InvalidScript(value)


def _answer(desk, command):
    """Make a command on a desk and return what it told."""
    if command[0] == "try":
        with desk.trial():
            told = _answers(desk, command[1])
        return ("tried", told)
    try:
        told = made(desk, command)
    except CutError as error:
        return ("refused", type(error).__name__)
    if told is None:
        return ("done",)
    return ("told", told)


def _answers(desk, script):
    found = []
    for command in script:
        found.append(_answer(desk, command))
    return found


def play(desk, script):
    """Make the commands of a script on a desk and return the list of what each told."""
    check_desk(desk)
    _check_script(script)
    return _answers(desk, script)


def _left_by(ground, order, script):
    """Return the store that a script leaves on a desk with an empty one."""
    desk = Desk(ground, order)
    _answers(desk, script)
    return desk.store()


def end_of(ground, order, script):
    """Return the store that a script leaves on a desk with an empty one."""
    check_ground_and_order(ground, order)
    _check_script(script)
    return _left_by(ground, order, script)


def shortened(ground, order, script):
    """Return a script without the commands that, from the last one to the first one, the outcome does not need."""
    goal = end_of(ground, order, script)
    left = list(script)
    for position in range(len(script) - 1, -1, -1):
        fewer = left[:position] + left[position + 1:]
        if _left_by(ground, order, fewer) == goal:
            left = fewer
    # No try is left, for it leaves all as it was: so no list stands within what is returned.
    return left


def alike(ground, order, one, other):
    """Return whether two scripts leave equal stores."""
    check_ground_and_order(ground, order)
    _check_script(one)
    _check_script(other)
    return _left_by(ground, order, one) == _left_by(ground, order, other)


def first_unlike(ground, order, other, script):
    """Return the position of the first command that tells something unlike by two orders, None if there is none."""
    check_ground_and_order(ground, order)
    check_order(ground, other)
    _check_script(script)
    told = _answers(Desk(ground, order), script)
    late = _answers(Desk(ground, other), script)
    for position, answer in enumerate(told):
        if answer != late[position]:
            return position
    return None


def fewest_kept(ground, orders, script):
    """Return the position of the first of some orders by which a script leaves a store that keeps the fewest pieces."""
    check_ground(ground)
    if not isinstance(orders, list) or orders == [] or not all([is_order(ground, order) for order in orders]):
        raise InvalidOrder(orders)
    _check_script(script)
    many = [len(_left_by(ground, order, script).kept()) for order in orders]
    return many.index(min(many))
