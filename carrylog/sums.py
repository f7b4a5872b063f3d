"""The rules: how full a ring or a store of segments may be and never stall."""

from math import isqrt

from carrylog.checks import check_least
from carrylog.errors import InvalidInput
from carrylog.rounds import Round, check_round


def effective(places, limit, *, late=False, tears=0, readers=0):
    """Return the pair (places, limit) that counts in the rule of the ring."""
    check_least(places, 1, "places")
    check_least(limit, 1, "limit")
    _check_order(late, tears, readers)
    return (places - _places_lost(late, tears), limit * (readers + 1))


def ring_goes_on(places, limit, budgets, *, late=False, tears=0, readers=0):
    """Tell whether a ring that carries as much as it may never stalls."""
    check_least(places, 1, "places")
    check_least(limit, 1, "limit")
    check_round(budgets)
    left, keys = effective(places, limit, late=late, tears=tears, readers=readers)
    return keys <= left and budgets.least(left - keys) >= keys - 1


def least_places(limit, budgets, *, late=False, tears=0, readers=0):
    """Return the smallest number of places with which the ring goes on, or None."""
    check_least(limit, 1, "limit")
    check_round(budgets)
    _check_order(late, tears, readers)
    keys = limit * (readers + 1)
    free = budgets.reach(keys - 1)
    if free is None:
        return None
    return keys + free + _places_lost(late, tears)


def greatest_limit(places, budgets, *, late=False, tears=0):
    """Return the greatest limit with which the ring goes on, or 0."""
    check_least(places, 1, "places")
    check_round(budgets)
    _check_order(late, tears, 0)
    left = places - _places_lost(late, tears)
    if left < 1:
        return 0
    # With f free places the rule asks for least(f) >= left - f - 1. One more
    # in each budget adds f to each sum of f budgets, which makes this a reach.
    raised = [budget + 1 for budget in budgets.budgets]
    more = Round(*raised)
    return left - more.reach(left - 1)


def least_budget(places, limit, *, late=False, tears=0, readers=0):
    """Return the smallest constant budget with which the ring goes on, or None."""
    left, keys = effective(places, limit, late=late, tears=tears, readers=readers)
    if keys > left:
        return None
    if keys == 1:
        return 0
    if keys == left:
        return None
    return divided_up(keys - 1, left - keys)


def least_free(limit, budgets):
    """Return the number of free places that is always enough, or None."""
    check_least(limit, 1, "limit")
    check_round(budgets)
    return budgets.reach(limit - 1)


def segment_share(size, budget):
    """Return how many keys each segment but one adds to the limit."""
    check_least(size, 1, "size")
    check_least(budget, 0, "budget")
    return budget * size // (budget + 1) + 1


def segments_limit(segments, size, budget, *, late=False):
    """Return the greatest limit with which segments never stall."""
    check_least(segments, 1, "segments")
    shares = (segments - 1) * segment_share(size, budget)
    return shares if late else shares + 1


def least_segments(limit, size, budget, *, late=False):
    """Return the smallest number of segments that bear the limit."""
    check_least(limit, 1, "limit")
    return 1 + divided_up(_shared_keys(limit, late), segment_share(size, budget))


def least_segment_budget(limit, segments, size, *, late=False):
    """Return the smallest budget with which the segments bear the limit, or None."""
    check_least(limit, 1, "limit")
    check_least(segments, 1, "segments")
    check_least(size, 1, "size")
    keys = _shared_keys(limit, late)
    if keys == 0:
        return 0
    if segments == 1:
        return None
    share = divided_up(keys, segments - 1)
    # However great the budget is, a share is never above the size.
    if share > size:
        return None
    # budget * size // (budget + 1) + 1 >= share, solved for the budget
    return divided_up(share - 1, size - share + 1)


def compare_houses(segments, size, budget):
    """Return the greatest limits of a ring and of segments in the same places."""
    segments_most = segments_limit(segments, size, budget)
    ring_most = greatest_limit(segments * size, Round.constant(budget))
    return (ring_most, segments_most)


def best_size(places, budget, least, *, late=False):
    """Return the best segment size of at least `least`, with its limit."""
    check_least(places, 1, "places")
    check_least(budget, 0, "budget")
    check_least(least, 1, "least")
    if least > places:
        raise InvalidInput("least")
    sizes = [size for size in _divisors(places) if size >= least]
    limits = [segments_limit(places // size, size, budget, late=late) for size in sizes]
    # The sizes ascend, so the first greatest limit belongs to the smallest size.
    at = limits.index(max(limits))
    return (sizes[at], limits[at])


def divided_up(total, parts):
    """Return total / parts, rounded up."""
    return (total + parts - 1) // parts


def _check_order(late, tears, readers):
    check_least(tears, 0, "tears")
    check_least(readers, 0, "readers")
    if tears > 0 and not late:
        raise InvalidInput("tears")
    if readers > 0 and late:
        raise InvalidInput("readers")


def _places_lost(late, tears):
    return 1 + tears if late else 0


def _shared_keys(limit, late):
    # In the early order one key more than the shares hold is borne.
    return limit if late else limit - 1


def _divisors(number):
    small = [part for part in range(1, isqrt(number) + 1) if number % part == 0]
    great = [number // part for part in reversed(small) if part * part < number]
    return small + great
