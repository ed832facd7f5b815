"""Pieces: what lies between the cuts of a text; long ones are told by their turn and a number of times."""

from owncuts.checks import are_places, check_number, check_place_up_to, check_text, is_count, is_word
from owncuts.cuts import check_cutting, inner_cuts
from owncuts.errors import InvalidCuts, InvalidPieces, InvalidTold, Refused
from owncuts.grounds import check_ground, check_text_of, check_word_of, is_text_of, is_word_of
from owncuts.orders import check_ground_and_order, ranks_in
from owncuts.periods import least_period, repeats_below, root
from owncuts.sites import chosen, text_sites


def _cut_up(text, places):
    """Return the list of what a text is cut into at places within it, of which the empty text has none."""
    if text == "":
        return []
    ends = places + [len(text)]
    return [text[first:behind] for first, behind in zip([0] + places, ends)]


def pieces_by(ground, ranks, text):
    """Return the list of the pieces of a text by an order with these ranks."""
    return _cut_up(text, [place for place in chosen(text_sites(ground, text), ranks) if 0 < place < len(text)])


def pieces(ground, order, text):
    """Return the list of the pieces of a text by an order."""
    check_cutting(ground, order, text)
    return pieces_by(ground, ranks_in(order), text)


def cut_at(text, places):
    """Return the list of the words into which a text is cut at an ascending list of places."""
    check_text(text)
    if not are_places(places) or not all([0 < place < len(text) for place in places]):
        raise InvalidCuts(places)
    return _cut_up(text, places)


def _check_words(value):
    if not isinstance(value, list) or not all([is_word(word) for word in value]):
        raise InvalidPieces(value)


def joined(pieces):
    """Return the text that a list of words makes, one behind the other."""
    _check_words(pieces)
    return "".join(pieces)


def _ends(words):
    """Return the list of the places behind each of some words in the text that they make."""
    found = []
    behind = 0
    for word in words:
        behind += len(word)
        found.append(behind)
    return found


def places_between(pieces):
    """Return the ascending list of the places at which a text is cut into a list of words."""
    _check_words(pieces)
    return _ends(pieces)[:-1]


def _check_word(ground, word):
    check_ground(ground)
    check_word_of(ground, word)


def _is_short(ground, word):
    return len(word) < 2 * ground.gap()


def _is_long(ground, word):
    return not _is_short(ground, word) and repeats_below(word[1:-1], ground.gap())


def is_short_or_long(ground, value):
    """Return whether any object is a word of a ground that can be told."""
    return is_word_of(ground, value) and (_is_short(ground, value) or _is_long(ground, value))


def is_short(ground, word):
    """Return whether a word has fewer than twice the gap signs."""
    _check_word(ground, word)
    return _is_short(ground, word)


def is_long(ground, word):
    """Return whether a word has twice the gap signs or more, and a period below the gap between its ends."""
    _check_word(ground, word)
    return _is_long(ground, word)


def turn_of(ground, word):
    """Return the turn of a long word."""
    _check_word(ground, word)
    if not _is_long(ground, word):
        raise Refused(word)
    inside = word[1:-1]
    return inside[:least_period(inside)]


def told_of(ground, word):
    """Return a short or long word, told."""
    _check_word(ground, word)
    if _is_short(ground, word):
        return (word,)
    turn = turn_of(ground, word)
    times = (len(word) - 2) // len(turn)
    return (word[0], turn, times, word[1 + times * len(turn):-1], word[-1])


def word_so_told(told):
    if len(told) == 1:
        return told[0]
    head, turn, times, rest, tail = told
    return head + turn * times + rest + tail


def word_of(ground, told):
    """Return the word that is so told."""
    check_ground(ground)
    if not is_told(ground, told):
        raise InvalidTold(told)
    return word_so_told(told)


def _inside(told):
    """Return how many signs a long word, told, has between its head and its tail."""
    return len(told[1]) * told[2] + len(told[3])


def _is_told_long(ground, value):
    head, turn, times, rest, tail = value
    if not all([is_text_of(ground, part) for part in (head, turn, rest, tail)]) or not is_count(times):
        return False
    if len(head) != 1 or len(tail) != 1 or not 0 < len(turn) < ground.gap():
        return False
    # At this length the turn is as long as the least period exactly if it is not itself a shorter one, repeated.
    if root(turn)[1] != 1 or len(rest) >= len(turn) or not turn.startswith(rest):
        return False
    return _inside(value) >= ground.width()


def is_told(ground, value):
    """Return whether any object is what told_of returns for some word of the ground."""
    check_ground(ground)
    if not isinstance(value, tuple):
        return False
    if len(value) == 1:
        return is_word_of(ground, value[0]) and _is_short(ground, value[0])
    return len(value) == 5 and _is_told_long(ground, value)


def told_text(ground, order, text):
    """Return the list of the pieces of a text, told."""
    return [told_of(ground, piece) for piece in pieces(ground, order, text)]


def check_row(ground, value):
    """Raise InvalidPieces unless the object is a list of told words of a ground."""
    if not isinstance(value, list) or not all([is_told(ground, told) for told in value]):
        raise InvalidPieces(value)


def text_of(ground, row):
    """Return the text that a list of told words tells."""
    check_ground(ground)
    check_row(ground, row)
    return "".join([word_so_told(told) for told in row])


def size_of(ground, row):
    """Return how many signs and decimal figures there are in a list of told words."""
    check_ground(ground)
    check_row(ground, row)
    return sum([len(str(part)) for told in row for part in told])


def sure_cuts(ground, text):
    """Return the ascending list of the places of a text that are cuts by every order."""
    check_ground(ground)
    check_text_of(ground, text)
    sites = text_sites(ground, text)
    return [place for place in sites.windows if sites.near[place] == []]


def sure_pieces(ground, text):
    """Return the ascending list of the tuples (first, behind) of what is a piece of a text by every order."""
    sure = sure_cuts(ground, text)
    inner = [place for place in text_sites(ground, text).windows if 0 < place < len(text)]
    ends = [0] + inner + [len(text)]
    held = [0, len(text)] + sure
    return [(first, behind) for first, behind in zip(ends, ends[1:])
            if first < behind and first in held and behind in held]


def retold(ground, order, text, position, times):
    """Return the text in which the turn of a long piece stands so many times instead."""
    row = told_text(ground, order, text)
    check_place_up_to(position, len(row) - 1)
    check_number(times, 0)
    if len(row[position]) == 1:
        raise Refused(position)
    head, turn, _, rest, tail = row[position]
    row[position] = (head, turn, times, rest, tail)
    if not is_told(ground, row[position]):
        raise Refused(times)
    return "".join([word_so_told(told) for told in row])


def _fewer_times(ground, told):
    """Return a told word with as few times as leave it 4 * gap - 4 signs between its ends, if it has more of them."""
    least = 2 * ground.width()
    if len(told) == 1 or _inside(told) <= least:
        return told
    head, turn, _, rest, tail = told
    return (head, turn, (least - len(rest) + len(turn) - 1) // len(turn), rest, tail)


def told_again(ground, order, row):
    """Return the list of the pieces, told, of the text that a list of told words tells."""
    check_ground_and_order(ground, order)
    check_row(ground, row)
    fewer = [_fewer_times(ground, told) for told in row]
    found = told_text(ground, order, "".join([word_so_told(told) for told in fewer]))
    ends = _ends([word_so_told(told) for told in found])
    first = 0
    which = 0
    for told, short in zip(row, fewer):
        if len(told) == 5:
            middle = first + 1 + _inside(short) // 2
            while ends[which] <= middle:
                which += 1
            # The piece that holds the middle repeats itself as the told word does: it takes the times left out.
            if told[2] > short[2]:
                head, turn, times, rest, tail = found[which]
                found[which] = (head, turn, times + told[2] - short[2], rest, tail)
        first += len(word_so_told(short))
    return found


def is_told_text(ground, order, row):
    """Return whether a list of told words is the list of the pieces, told, of the text that it tells."""
    return told_again(ground, order, row) == row


def holding(ground, order, text, position):
    """Return which piece holds a sign of a text, the position of its first sign, and the place behind its last one."""
    check_cutting(ground, order, text)
    check_place_up_to(position, len(text) - 1)
    which = 0
    first = 0
    for behind in inner_cuts(ground, order, text) + [len(text)]:
        if position < behind:
            return (which, first, behind)
        which += 1
        first = behind
