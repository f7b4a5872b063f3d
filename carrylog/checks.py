"""The check of an argument that all modules share."""

from carrylog.errors import InvalidInput


def is_whole(value):
    """Tell whether the value is an integer; True and False are none."""
    return isinstance(value, int) and not isinstance(value, bool)


def check_least(value, least, field):
    """Refuse a value that is not an integer of at least `least`."""
    if not is_whole(value) or value < least:
        raise InvalidInput(field)
