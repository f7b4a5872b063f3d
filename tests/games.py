"""The game on a ring, written out from the words of the document alone.

Nothing here uses the package, so that tests can hold the package against it.
"""

from itertools import product


def without(word, index):
    """The word with this one (None: no one) made a zero, freed at the tail."""
    places = [at for at, mark in enumerate(word) if mark == "1"]
    if index is not None:
        word = word[:places[index]] + "0" + word[places[index] + 1:]
    return word.lstrip("0")


def carried(word, most, places):
    """The words after 0, 1, .. carries, at most `most`."""
    words = [word]
    while len(words) <= most and word and len(word) < places:
        word = (word[1:] + "1").lstrip("0")
        words.append(word)
    return words


def ring_put(word, index, places, budget, late):
    """All words that a put of this key can lead to, by ascending carries; none if it stalls."""
    if late:
        if len(word) == places:
            return []
        word = without(word + "1", index)
        return carried(word, min(budget, word.count("1") - 1), places)
    word = without(word, index)
    after = carried(word, min(budget, word.count("1")), places)
    return [each + "1" for each in after if len(each) < places]


def ring_moves(word, limit):
    """Every key that can be put: an index, and None for a new one."""
    ones = word.count("1")
    return list(range(ones)) + ([None] if ones < limit else [])


def ring_replies(state, places, limit, row, late):
    """For each move, the states that a keeper can lead to."""
    word, phase = state
    after = (phase + 1) % len(row)
    return [[(w, after) for w in ring_put(word, move, places, row[phase], late)] for move in ring_moves(word, limit)]


def all_words(places):
    """Every word of at most so many places, the shorter ones first."""
    return [""] + ["1" + "".join(rest) for n in range(places) for rest in product("01", repeat=n)]


def ring_words(places, limit):
    return [word for word in all_words(places) if word.count("1") <= limit]


def safe_states(states, replies_of):
    """The states from which the keeper can go on forever."""
    table = {state: replies_of(state) for state in states}
    safe = set(table)
    while True:
        kept = {state for state in safe if all(any(r in safe for r in row) for row in table[state])}
        if kept == safe:
            return safe
        safe = kept


def lives(states, replies_of):
    """The life of each state by search alone; None where the keeper goes on forever."""
    table = {state: replies_of(state) for state in states}
    found = {}
    now = 0
    while True:
        # A state falls in this turn if some move leads only to states that fell before.
        fallen = [
            state for state in table
            if state not in found and any(all(reply in found for reply in row) for row in table[state])
        ]
        if not fallen:
            return {state: found.get(state) for state in table}
        found.update({state: now for state in fallen})
        now += 1


def ring_lives(places, limit, row, late):
    """The life of each standing (word, phase) of a ring."""
    states = list(product(ring_words(places, limit), range(len(row))))
    return lives(states, lambda state: ring_replies(state, places, limit, row, late))
