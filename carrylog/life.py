"""How long a standing lasts: the greatest number of puts that the keeper can be sure of.

The critical put has a formula, because both sides have one best way: the
keeper is greedy, and the opponent plays the newest play.
"""

from carrylog.checks import check_least
from carrylog.errors import InvalidInput, NoPlace
from carrylog.rounds import check_round
from carrylog.words import check_word, depths, living, newest, step


def blocked_at(word, places, limit, budgets, phase=0, *, late=False):
    """Return the first put that finds an old record at the tail of a full log, or None."""
    check_standing(word, places, limit, budgets, phase)
    # The sums of the budgets never fall. So if the condition holds at any put,
    # it holds at the put with the number of the places or before it.
    for t in range(places_in_play(places, late) + 1):
        if blocks(word, places, limit, budgets, phase, late, t):
            return t
    return None


def short_at(word, places, limit, budgets, phase=0, *, late=False):
    """Return the first put before which the budgets are too poor, or None."""
    check_standing(word, places, limit, budgets, phase)
    first = first_short(word, places, late)
    # From the first put on that counts the condition repeats with the round.
    for t in range(first, first + len(budgets)):
        if falls_short(word, places, limit, budgets, phase, late, t):
            return t
    return None


def life(word, places, limit, budgets, phase=0, *, late=False):
    """Return how many puts the keeper is sure to complete, or None if it goes on forever."""
    check_standing(word, places, limit, budgets, phase)
    if late and len(word) == places:
        return 0
    blocked = blocked_at(word, places, limit, budgets, phase, late=late)
    short = short_at(word, places, limit, budgets, phase, late=late)
    found = [t for t in [blocked, short] if t is not None]
    if len(found) == 0:
        return None
    return min(found) + 1 if late else min(found)


def safe(word, places, limit, budgets, phase=0, *, late=False):
    """Tell whether the keeper can go on forever from the standing."""
    return life(word, places, limit, budgets, phase, late=late) is None


def newest_step(word, places, limit, budgets, phase=0, *, late=False):
    """Return the word after one put of the newest play against the greedy keeper."""
    check_standing(word, places, limit, budgets, phase)
    index = None if living(word) < limit else newest(word)
    return step(word, index, budgets.at(phase), places, late=late)


def newest_play(word, places, limit, budgets, phase=0, *, late=False, most=64):
    """Yield the word after each completed put of the newest play, at most `most` of them."""
    check_standing_alone(word, places, limit, budgets, phase)
    check_least(most, 0, "most")
    check_standing_fits(word, places, limit)
    for t in range(most):
        word = next_word(word, places, limit, budgets, phase + t, late)
        if word is None:
            return
        yield word


def next_word(word, places, limit, budgets, phase, late):
    """Return the word after one newest step, or None if the put stalls."""
    try:
        return newest_step(word, places, limit, budgets, phase, late=late)
    except NoPlace:
        return None


def places_in_play(places, late):
    """Return the places that count: writing first costs one of them."""
    return places - 1 if late else places


def blocks(word, places, limit, budgets, phase, late, t):
    """Tell whether an old record is at the tail of a log without a free place at put t."""
    if t < 0:
        return False
    moved = budgets.total(phase, t)
    if moved >= min(living(word), limit - 1):
        return False
    return depths(word)[moved] + moved + t >= places_in_play(places, late)


def first_short(word, places, late):
    """Return the first put before which the round can be too poor."""
    return max(0, places_in_play(places, late) - living(word))


def falls_short(word, places, limit, budgets, phase, late, t):
    """Tell whether the budgets before put t are too poor."""
    if t < first_short(word, places, late):
        return False
    gap = places_in_play(places, late) - limit
    if gap < 0:
        return True
    return budgets.total(phase + t - gap, gap) < limit - 1


def check_standing(word, places, limit, budgets, phase):
    """Refuse terms and a standing that break a limit."""
    check_standing_alone(word, places, limit, budgets, phase)
    check_standing_fits(word, places, limit)


def check_standing_alone(word, places, limit, budgets, phase):
    """Refuse what breaks a limit by itself."""
    check_word(word, "word")
    check_least(places, 1, "places")
    check_least(limit, 1, "limit")
    check_round(budgets)
    check_least(phase, 0, "phase")


def check_standing_fits(word, places, limit):
    """Refuse what breaks a limit that depends on another argument."""
    if len(word) > places or living(word) > limit:
        raise InvalidInput("word")
    check_limit_fits(limit, places)


def check_terms(places, limit, budgets):
    """Refuse terms of a ring that break a limit."""
    check_least(places, 1, "places")
    check_least(limit, 1, "limit")
    check_round(budgets)
    check_limit_fits(limit, places)


def check_limit_fits(limit, places):
    """Refuse a limit above the places."""
    if limit > places:
        raise InvalidInput("limit")
