"""What an argument has to be, apart from any ground, and the errors where it is not."""

from owncuts.errors import InvalidName, InvalidNumber, InvalidPlace, InvalidText, InvalidWord

LETTERS = "abcdefghijklmnopqrstuvwxyz"


def is_whole_number(value):
    # True and False are integers to Python, but not to the package.
    return isinstance(value, int) and not isinstance(value, bool)


def is_count(value):
    return is_whole_number(value) and value >= 0


def is_ascending(values):
    """Return whether each of the things in a list is less than the next one."""
    return all([one < other for one, other in zip(values, values[1:])])


def is_list_of_whole_numbers(value):
    return isinstance(value, list) and all([is_whole_number(number) for number in value])


def are_places(value):
    """Return whether any object is an ascending list of whole numbers."""
    return is_list_of_whole_numbers(value) and is_ascending(value)


def is_made_of(value, signs):
    """Return whether any object is a string that has none but these signs."""
    # Stripping stops at the first foreign sign from either side: nothing is left only where there is none.
    return isinstance(value, str) and value.strip(signs) == ""


def is_text(value):
    return is_made_of(value, LETTERS)


def is_word(value):
    return is_text(value) and value != ""


def is_name(value):
    """Return whether any object is a word of one to eight letters."""
    return is_word(value) and len(value) <= 8


def check_text(value):
    if not is_text(value):
        raise InvalidText(value)


def check_word(value):
    if not is_word(value):
        raise InvalidWord(value)


def check_new_name(value):
    """Raise InvalidName unless the object may be a name, of whatever store."""
    if not is_name(value):
        raise InvalidName(value)


def check_place_up_to(value, most):
    """Raise InvalidPlace unless the object is a count, at most a number."""
    if not is_count(value) or value > most:
        raise InvalidPlace(value)


def check_number(value, least):
    """Raise InvalidNumber unless the object is a count from `least` on."""
    if not is_count(value) or value < least:
        raise InvalidNumber(value)


def check_whole_place(value):
    if not is_whole_number(value):
        raise InvalidPlace(value)
