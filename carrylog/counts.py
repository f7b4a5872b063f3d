"""Counts of words: how many there are, how many are safe, and which is which.

Words of one number of ones, the shorter ones first and those of one length in
ascending order, are in the order of the binary numbers that they write.
"""

from math import comb

from carrylog.checks import check_least
from carrylog.errors import InvalidInput
from carrylog.life import check_limit_fits, places_in_play, safe
from carrylog.rounds import check_round
from carrylog.sums import ring_goes_on
from carrylog.words import check_word, depths, word_of


def count_words(places, count):
    """Return the number of words with this many ones and at most so many places."""
    check_least(places, 1, "places")
    check_least(count, 0, "count")
    return comb(places, count)


def count_safe(places, limit, budgets, phase, count, *, late=False):
    """Return how many of these words are safe."""
    _check_safe(places, limit, budgets, phase, count)
    if not ring_goes_on(places, limit, budgets, late=late):
        return 0
    bounds = _greatest_depths(places, limit, budgets, phase, count, late)
    # ways[d] is the number of tails of the list that begin with a depth of at most d.
    ways = [1 for _ in range(places + 1)]
    for bound in reversed(bounds):
        longer = [0]
        for depth in range(1, places + 1):
            more = ways[depth - 1] if depth <= bound else 0
            longer.append(longer[depth - 1] + more)
        ways = longer
    return ways[places]


def safe_words(places, limit, budgets, phase, count, *, late=False):
    """Yield the safe words with this many ones, the shorter ones first."""
    _check_safe(places, limit, budgets, phase, count)
    for rank in range(comb(places, count)):
        word = _ranked(rank, places, count)
        if safe(word, places, limit, budgets, phase, late=late):
            yield word


def word_at(rank, places, count):
    """Return the word with this rank among the words with so many ones and places."""
    check_least(rank, 0, "rank")
    check_least(places, 1, "places")
    check_least(count, 0, "count")
    if rank >= comb(places, count):
        raise InvalidInput("rank")
    return _ranked(rank, places, count)


def rank_of(word):
    """Return the rank of the word among all words with as many ones."""
    check_word(word, "word")
    found = depths(word)
    # Before the word come those that have the same first ones and the next one
    # less deep: what is left of their ones lies anywhere below that depth.
    return sum([comb(depth - 1, len(found) - at) for at, depth in enumerate(found)])


def _check_safe(places, limit, budgets, phase, count):
    check_least(places, 1, "places")
    check_least(limit, 1, "limit")
    check_round(budgets)
    check_least(phase, 0, "phase")
    check_least(count, 0, "count")
    check_limit_fits(limit, places)
    if count > limit:
        raise InvalidInput("count")


def _greatest_depths(places, limit, budgets, phase, count, late):
    """Return for each one, from the tail, the greatest depth with which it is safe."""
    room = places_in_play(places, late)
    bounds = [room for _ in range(count)]
    # The one with index W(t) must not be at the tail of a full log at put t. No
    # put after the room counts: whatever it forbids, an earlier one forbids.
    for t in range(room + 1):
        index = budgets.total(phase, t)
        if index < min(count, limit - 1):
            bounds[index] = min(bounds[index], room - index - t - 1)
    return bounds


def _ranked(rank, places, count):
    """Return the word with the rank: the deepest one that the rank leaves room for first."""
    found = []
    depth = places
    for left in range(count, 0, -1):
        while comb(depth - 1, left) > rank:
            depth -= 1
        rank -= comb(depth - 1, left)
        found.append(depth)
        depth -= 1
    return word_of(found)
