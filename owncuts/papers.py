"""Papers: grounds, orders, rounds, told words, rules and stores as strings of lines, and back again.

Each reader takes what it finds in the lines, and then looks whether the writer makes the very string of that.
"""

from owncuts.errors import CutError, InvalidPaper
from owncuts.grounds import Ground, check_ground
from owncuts.orders import check_ground_and_order, is_order
from owncuts.pieces import check_row, is_told, told_of, word_so_told
from owncuts.rounds import are_rounds, check_rounds
from owncuts.rules import check_rule, is_rule
from owncuts.store import check_store, is_history, row_in, store_of, words_unused

# Far more than a version's signs, or a number's figures, can be: what tells of more was written of no store.
MOST_SIGNS = 1000000
MOST_FIGURES = 900


def _paper(lines):
    """Return the string of some lines, each a list of parts."""
    return "".join([" ".join(parts) + "\n" for parts in lines])


def _lines_in(text):
    """Return the list of the lists of parts of a paper's lines."""
    if not isinstance(text, str):
        raise InvalidPaper(text)
    return [line.split(" ") for line in text.split("\n")[:-1]]


def _check_written(text, written):
    if text != written:
        raise InvalidPaper(text)


def _number_in(part):
    """Return the number that a part tells, None if it tells none."""
    if part == "" or part.strip("0123456789") != "" or len(part) > MOST_FIGURES:
        return None
    return int(part)


def _ground_lines(ground):
    return [["ground", ground.signs(), str(ground.gap())]]


def _ground_in(text, lines):
    """Return the ground that the first line of a paper tells."""
    if lines == [] or len(lines[0]) != 3:
        raise InvalidPaper(text)
    _, signs, gap = lines[0]
    try:
        return Ground(signs, _number_in(gap))
    except CutError:
        raise InvalidPaper(text)


def ground_text(ground):
    """Return the paper of a ground."""
    check_ground(ground)
    return _paper(_ground_lines(ground))


def read_ground(text):
    """Return the ground that a paper tells."""
    ground = _ground_in(text, _lines_in(text))
    _check_written(text, ground_text(ground))
    return ground


def _order_lines(ground, order):
    return _ground_lines(ground) + [["window", window] for window in order]


def order_text(ground, order):
    """Return the paper of a ground and an order."""
    check_ground_and_order(ground, order)
    return _paper(_order_lines(ground, order))


def read_order(text):
    """Return the tuple of the ground and the order that a paper tells."""
    lines = _lines_in(text)
    ground = _ground_in(text, lines)
    order = [parts[-1] for parts in lines[1:]]
    if not is_order(ground, order):
        raise InvalidPaper(text)
    _check_written(text, order_text(ground, order))
    return (ground, order)


def rounds_text(ground, rounds):
    """Return the paper of a ground and rounds."""
    check_ground(ground)
    check_rounds(ground, rounds)
    return _paper(_ground_lines(ground) + [["round"] + row for row in rounds])


def read_rounds(text):
    """Return the tuple of the ground and the rounds that a paper tells."""
    lines = _lines_in(text)
    ground = _ground_in(text, lines)
    rounds = [parts[1:] for parts in lines[1:]]
    if not are_rounds(ground, rounds):
        raise InvalidPaper(text)
    _check_written(text, rounds_text(ground, rounds))
    return (ground, rounds)


def _told_line(told):
    if len(told) == 1:
        return ["short", told[0]]
    head, turn, times, rest, tail = told
    return ["long", head, turn, str(times), "-" if rest == "" else rest, tail]


def _told_in(parts):
    """Return what a line tells as a told word, whatever it is."""
    if len(parts) != 6:
        return tuple(parts[1:])
    _, head, turn, times, rest, tail = parts
    return (head, turn, _number_in(times), "" if rest == "-" else rest, tail)


def row_text(ground, row):
    """Return the paper of a ground and a list of told words."""
    check_ground(ground)
    check_row(ground, row)
    return _paper(_ground_lines(ground) + [_told_line(told) for told in row])


def read_row(text):
    """Return the tuple of the ground and the list of told words that a paper tells."""
    lines = _lines_in(text)
    ground = _ground_in(text, lines)
    row = [_told_in(parts) for parts in lines[1:]]
    if not all([is_told(ground, told) for told in row]):
        raise InvalidPaper(text)
    _check_written(text, row_text(ground, row))
    return (ground, row)


def rule_text(ground, rule):
    """Return the paper of a ground and a rule."""
    check_ground(ground)
    check_rule(ground, rule)
    words, at = rule
    return _paper(_ground_lines(ground) + [["rule", str(at)]] + [["word", word] for word in words])


def read_rule(text):
    """Return the tuple of the ground and the rule that a paper tells."""
    lines = _lines_in(text)
    ground = _ground_in(text, lines)
    numbers = [_number_in(parts[-1]) for parts in lines[1:2]]
    rule = ([parts[-1] for parts in lines[2:]], *numbers)
    if not is_rule(ground, rule):
        raise InvalidPaper(text)
    _check_written(text, rule_text(ground, rule))
    return (ground, rule)


def _told_lines(ground, words):
    return [_told_line(told_of(ground, word)) for word in words]


def _version_lines(store, name, number, text):
    if text is None:
        return [["dropped"]]
    row = row_in(store, name, number)
    return [["version", str(len(row))]] + _told_lines(store.ground(), row)


def store_text(store):
    """Return the paper of a store."""
    check_store(store)
    lines = _order_lines(store.ground(), store.order())
    for name, texts in store.history().items():
        lines.append(["name", name])
        for number, text in enumerate(texts):
            lines.extend(_version_lines(store, name, number, text))
    words = words_unused(store)
    return _paper(lines + [["kept", str(len(words))]] + _told_lines(store.ground(), words))


def _rows_in(lines):
    """Return what the lines of a store's paper tell: its order, the rows of each name's versions, and what is kept."""
    order = []
    names = {}
    kept = []
    versions = []
    row = []
    for parts in lines:
        if parts[0] == "window":
            order.append(parts[-1])
        elif parts[0] == "name":
            versions = names.setdefault(parts[-1], [])
        elif parts[0] == "version":
            row = []
            versions.append(row)
        elif parts[0] == "dropped":
            versions.append(None)
        elif parts[0] == "kept":
            row = kept
        else:
            row.append(_told_in(parts))
    return order, names, kept


def _word_told(ground, text, told):
    """Return the word that a line tells."""
    if not is_told(ground, told) or (len(told) == 5 and len(told[1]) * told[2] > MOST_SIGNS):
        raise InvalidPaper(text)
    return word_so_told(told)


def read_store(text):
    """Return the store that a paper tells."""
    lines = _lines_in(text)
    ground = _ground_in(text, lines)
    order, names, kept = _rows_in(lines[1:])
    history = {}
    for name, versions in names.items():
        history[name] = []
        for row in versions:
            words = None if row is None else [_word_told(ground, text, told) for told in row]
            history[name].append(None if words is None else "".join(words))
    if not is_order(ground, order) or not is_history(ground, history):
        raise InvalidPaper(text)
    store = store_of(ground, order, history, [_word_told(ground, text, told) for told in kept])
    _check_written(text, store_text(store))
    return store
