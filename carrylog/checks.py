"""The checks of arguments that all modules share."""

from carrylog.errors import InvalidInput

KEY_CHARACTERS = "abcdefghijklmnopqrstuvwxyz0123456789"
LONGEST_KEY = 12


def is_whole(value):
    """Tell whether the value is an integer; True and False are none."""
    return isinstance(value, int) and not isinstance(value, bool)


def check_least(value, least, field):
    """Refuse a value that is not an integer of at least `least`."""
    if not is_whole(value) or value < least:
        raise InvalidInput(field)


def check_key(key):
    """Refuse a string that is no key."""
    if not 1 <= len(key) <= LONGEST_KEY or not consists_of(key, KEY_CHARACTERS):
        raise InvalidInput("key")


def consists_of(text, characters):
    """Tell whether the text has only these characters."""
    # A character of another kind stops the stripping and is left over.
    return text.strip(characters) == ""
