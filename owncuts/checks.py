"""What an argument has to be, apart from any ground, and the errors where it is not."""

from owncuts.errors import InvalidNumber, InvalidText, InvalidWord

LETTERS = "abcdefghijklmnopqrstuvwxyz"


def is_whole_number(value):
    # True and False are integers to Python, but not to the package.
    return isinstance(value, int) and not isinstance(value, bool)


def is_count(value):
    return is_whole_number(value) and value >= 0


def is_made_of(value, signs):
    """Return whether any object is a string that has none but these signs."""
    # Stripping stops at the first foreign sign from either side: nothing is left only where there is none.
    return isinstance(value, str) and value.strip(signs) == ""


def is_text(value):
    return is_made_of(value, LETTERS)


def is_word(value):
    return is_text(value) and value != ""


def check_text(value):
    if not is_text(value):
        raise InvalidText(value)


def check_word(value):
    if not is_word(value):
        raise InvalidWord(value)


def check_number(value, least):
    """Raise InvalidNumber unless the object is a count from `least` on."""
    if not is_count(value) or value < least:
        raise InvalidNumber(value)
