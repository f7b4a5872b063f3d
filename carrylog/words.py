"""Words: one character for each record of a log from the tail to the head.

A record that is needed is a `1`, a dead one is a `0`. Dead records at the tail
are freed at once, so a word never begins with `0`.
"""

from carrylog.checks import check_least, consists_of
from carrylog.errors import InvalidInput, NoPlace


def normal(text):
    """Return the text without its leading zeros."""
    if not consists_of(text, "01"):
        raise InvalidInput("text")
    return _freed(text)


def living(word):
    """Return the number of ones."""
    check_word(word, "word")
    return word.count("1")


def depths(word):
    """Return for each one, from the tail, the number of characters from it to the end."""
    check_word(word, "word")
    return [len(word) - at for at in _ones(word)]


def word_of(depths):
    """Return the word with these depths."""
    _check_depths(depths)
    if len(depths) == 0:
        return ""
    marks = {depth: True for depth in depths}
    return "".join(["1" if depth in marks else "0" for depth in range(depths[0], 0, -1)])


def release(word, index):
    """Make the one with this index a zero."""
    check_word(word, "word")
    check_least(index, 0, "index")
    _check_index(word, index)
    return _without(word, index)


def carry(word, places):
    """Move the record at the tail to the head, if a place is free for the copy."""
    check_word(word, "word")
    check_least(places, 1, "places")
    _check_fits(word, places)
    return _moved(word, 1, places)


def carries(word, count, places):
    """Carry this many times."""
    check_word(word, "word")
    check_least(count, 0, "count")
    check_least(places, 1, "places")
    _check_fits(word, places)
    return _moved(word, count, places)


def append_record(word, places, record="1"):
    """Append a record, or raise NoPlace if the word fills all places."""
    check_word(word, "word")
    check_least(places, 1, "places")
    if record not in ("0", "1"):
        raise InvalidInput("record")
    _check_fits(word, places)
    return _appended(word, places, record)


def step(word, index, count, places, *, late=False):
    """Return the word after a whole put of the one with this index, or of a new key."""
    check_word(word, "word")
    if index is not None:
        check_least(index, 0, "index")
    check_least(count, 0, "count")
    check_least(places, 1, "places")
    if index is not None:
        _check_index(word, index)
    _check_fits(word, places)
    if late:
        # The own record is the last one, so the index means the same record as before.
        left = _without(_appended(word, places, "1"), index)
        return _moved(left, min(count, left.count("1") - 1), places)
    left = _without(word, index)
    return _appended(_moved(left, min(count, left.count("1")), places), places, "1")


def dominates(first, second):
    """Tell whether the first word is at least as good as the second one."""
    check_word(first, "first")
    check_word(second, "second")
    mine = depths(first)
    others = depths(second)
    return len(mine) <= len(others) and all([low <= high for low, high in zip(mine, others)])


def newest(word):
    """Return the index of the last one, or None for the empty word."""
    check_word(word, "word")
    if word == "":
        return None
    return word.count("1") - 1


def best_word(count):
    """Return the word of this many ones alone."""
    check_least(count, 0, "count")
    return "1" * count


def worst_word(count, length):
    """Return the word of this many ones, followed by zeros up to the length."""
    check_least(count, 0, "count")
    check_least(length, count, "length")
    if count == 0 and length > 0:
        raise InvalidInput("length")
    return "1" * count + "0" * (length - count)


def is_word(text):
    """Tell whether the text is a word."""
    return text == "" or (text[0] == "1" and consists_of(text, "01"))


def check_word(word, field):
    """Refuse a string that is no word."""
    if not is_word(word):
        raise InvalidInput(field)


def _check_depths(numbers):
    for number in numbers:
        check_least(number, 1, "depths")
    for higher, lower in zip(numbers, numbers[1:]):
        if lower >= higher:
            raise InvalidInput("depths")


def _check_index(word, index):
    if index >= word.count("1"):
        raise InvalidInput("index")


def _check_fits(word, places):
    if len(word) > places:
        raise InvalidInput("places")


def _freed(text):
    return text.lstrip("0")


def _ones(word):
    return [at for at, mark in enumerate(word) if mark == "1"]


def _without(word, index):
    if index is None:
        return word
    at = _ones(word)[index]
    return _freed(word[:at] + "0" + word[at + 1:])


def _moved(word, count, places):
    for _ in range(count):
        if word == "" or len(word) == places:
            return word
        word = _freed(word[1:] + "1")
    return word


def _appended(word, places, record):
    if len(word) == places:
        raise NoPlace(places)
    return _freed(word + record)
