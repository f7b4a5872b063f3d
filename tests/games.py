"""The games on a ring and on segments, written out from the words of the document alone.

Nothing here uses the package, so that tests can hold the package against it.
"""

from itertools import product


def without(word, index):
    """The word with this one (None: no one) made a zero, freed at the tail."""
    places = [at for at, mark in enumerate(word) if mark == "1"]
    if index is not None:
        word = word[:places[index]] + "0" + word[places[index] + 1:]
    return word.lstrip("0")


def carried(word, most, places):
    """The words after 0, 1, .. carries, at most `most`."""
    words = [word]
    while len(words) <= most and word and len(word) < places:
        word = (word[1:] + "1").lstrip("0")
        words.append(word)
    return words


def ring_put(word, index, places, budget, late):
    """All words that a put of this key can lead to, by ascending carries; none if it stalls."""
    if late:
        if len(word) == places:
            return []
        word = without(word + "1", index)
        return carried(word, min(budget, word.count("1") - 1), places)
    word = without(word, index)
    after = carried(word, min(budget, word.count("1")), places)
    return [each + "1" for each in after if len(each) < places]


def ring_moves(word, limit):
    """Every key that can be put: an index, and None for a new one."""
    ones = word.count("1")
    return list(range(ones)) + ([None] if ones < limit else [])


def ring_replies(state, places, limit, row, late):
    """For each move, the states that a keeper can lead to."""
    word, phase = state
    after = (phase + 1) % len(row)
    return [[(w, after) for w in ring_put(word, move, places, row[phase], late)] for move in ring_moves(word, limit)]


def all_words(places):
    """Every word of at most so many places, the shorter ones first."""
    return [""] + ["1" + "".join(rest) for n in range(places) for rest in product("01", repeat=n)]


def ring_words(places, limit):
    return [word for word in all_words(places) if word.count("1") <= limit]


def safe_states(states, replies_of):
    """The states from which the keeper can go on forever."""
    table = {state: replies_of(state) for state in states}
    safe = set(table)
    while True:
        kept = {state for state in safe if all(any(r in safe for r in row) for row in table[state])}
        if kept == safe:
            return safe
        safe = kept


def lives(states, replies_of):
    """The life of each state by search alone; None where the keeper goes on forever."""
    table = {state: replies_of(state) for state in states}
    found = {}
    now = 0
    while True:
        # A state falls in this turn if some move leads only to states that fell before.
        fallen = [
            state for state in table
            if state not in found and any(all(reply in found for reply in row) for row in table[state])
        ]
        if not fallen:
            return {state: found.get(state) for state in table}
        found.update({state: now for state in fallen})
        now += 1


def ring_lives(places, limit, row, late):
    """The life of each standing (word, phase) of a ring."""
    states = list(product(ring_words(places, limit), range(len(row))))
    return lives(states, lambda state: ring_replies(state, places, limit, row, late))


def write(state, size, segments):
    """A summary after one write, or None if there is no place."""
    head, alive, closed = state
    if head < size:
        return (head + 1, alive + 1, closed)
    if len(closed) + 1 == segments:
        return None
    return (1, 1, tuple(sorted([*closed, alive])))


def kill_closed(state, count):
    """A summary after the death of a record in a closed segment with so many."""
    head, alive, closed = state
    rest = list(closed)
    rest.remove(count)
    return (head, alive, tuple(sorted(rest + [count - 1] * (count > 1))))


def kill_head(state):
    head, alive, closed = state
    return (head, alive - 1, closed) if alive > 1 else (0, 0, closed)


def carries_of(state, budget, size, segments):
    """The summaries after at most `budget` carries from any closed segments."""
    found = {state}
    fresh = [state]
    for _ in range(budget):
        news = []
        for each in fresh:
            for count in set(each[2]):
                copied = write(each, size, segments)
                if copied:
                    news.append(kill_closed(copied, count))
        fresh = [each for each in set(news) if each not in found]
        found.update(fresh)
    return found


def segments_put(state, move, budget, size, segments, late):
    """All summaries that a put can lead to; none if it stalls."""
    if not late:
        released = state if move == "new" else kill_head(state) if move == "head" else kill_closed(state, move)
        after = [write(each, size, segments) for each in carries_of(released, budget, size, segments)]
        return [each for each in after if each]
    moment = write(state, size, segments)
    if moment is None:
        return []
    if move == "head":
        # A full head is closed by the write, with the record to be released in it.
        moment = kill_closed(moment, state[1]) if state[0] == size else kill_head(moment)
    elif move != "new":
        moment = kill_closed(moment, move)
    return list(carries_of(moment, budget, size, segments))


def segments_moves(state, limit):
    """Every key that can be put: "new", "head", or the living count of a closed segment."""
    alive = state[1] + sum(state[2])
    return (["new"] if alive < limit else []) + (["head"] if state[1] else []) + sorted(set(state[2]))


def segments_replies(state, limit, budget, size, segments, late):
    moves = segments_moves(state, limit)
    return [segments_put(state, move, budget, size, segments, late) for move in moves]


def reachable(start, replies_of):
    found = {start}
    todo = [start]
    while todo:
        for row in replies_of(todo.pop()):
            for each in row:
                if each not in found:
                    found.add(each)
                    todo.append(each)
    return found
