"""The rules of the ring and of segments against games that are searched to the end.

[2], [9], [11] and [13]: the games are written out here and in tests.games from
the words of the document alone and use nothing of the package but the rules
under test.
"""

import unittest
from itertools import product

from carrylog.rounds import Round
from carrylog.sums import ring_goes_on, segments_limit
from tests.games import ring_replies, ring_words, safe_states


class TestRingByHand(unittest.TestCase):
    """[11]: True exactly if the empty ring is safe; if False, nothing is safe."""

    def test_small_rings(self):
        rows = [[0], [1], [2], [4], [0, 1], [2, 0], [3, 0], [1, 0, 0], [0, 2, 1]]
        for places, row, late in product(range(1, 6), rows, [False, True]):
            for limit in range(1, places + 1):
                with self.subTest(places=places, limit=limit, row=row, late=late):
                    states = list(product(ring_words(places, limit), range(len(row))))
                    safe = safe_states(states, lambda state: ring_replies(state, places, limit, row, late))
                    goes_on = ring_goes_on(places, limit, Round(*row), late=late)
                    self.assertEqual(goes_on, ("", 0) in safe)
                    self.assertEqual(goes_on, len(safe) > 0)


def write(state, size, segments):
    """A summary after one write, or None if there is no place."""
    head, alive, closed = state
    if head < size:
        return (head + 1, alive + 1, closed)
    if len(closed) + 1 == segments:
        return None
    return (1, 1, tuple(sorted([*closed, alive])))


def kill_closed(state, count):
    """A summary after the death of a record in a closed segment with so many."""
    head, alive, closed = state
    rest = list(closed)
    rest.remove(count)
    return (head, alive, tuple(sorted(rest + [count - 1] * (count > 1))))


def kill_head(state):
    head, alive, closed = state
    return (head, alive - 1, closed) if alive > 1 else (0, 0, closed)


def carries_of(state, budget, size, segments):
    """The summaries after at most `budget` carries from any closed segments."""
    found = {state}
    fresh = [state]
    for _ in range(budget):
        news = []
        for each in fresh:
            for count in set(each[2]):
                copied = write(each, size, segments)
                if copied:
                    news.append(kill_closed(copied, count))
        fresh = [each for each in set(news) if each not in found]
        found.update(fresh)
    return found


def segments_put(state, move, budget, size, segments, late):
    """All summaries that a put can lead to; none if it stalls."""
    if not late:
        released = state if move == "new" else kill_head(state) if move == "head" else kill_closed(state, move)
        after = [write(each, size, segments) for each in carries_of(released, budget, size, segments)]
        return [each for each in after if each]
    moment = write(state, size, segments)
    if moment is None:
        return []
    if move == "head":
        # A full head is closed by the write, with the record to be released in it.
        moment = kill_closed(moment, state[1]) if state[0] == size else kill_head(moment)
    elif move != "new":
        moment = kill_closed(moment, move)
    return list(carries_of(moment, budget, size, segments))


def segments_replies(state, limit, budget, size, segments, late):
    alive = state[1] + sum(state[2])
    moves = (["new"] if alive < limit else []) + (["head"] if state[1] else []) + sorted(set(state[2]))
    return [segments_put(state, move, budget, size, segments, late) for move in moves]


def reachable(start, replies_of):
    found = {start}
    todo = [start]
    while todo:
        for row in replies_of(todo.pop()):
            for each in row:
                if each not in found:
                    found.add(each)
                    todo.append(each)
    return found


class TestSegmentsByHand(unittest.TestCase):
    """[13]: some keeper goes on forever from empty up to the limit, none above it."""

    def test_small_segments(self):
        houses = [(1, 1), (1, 3), (2, 1), (2, 2), (2, 3), (2, 4), (3, 1), (3, 2), (4, 1), (4, 2)]
        for (segments, size), budget, late in product(houses, range(4), [False, True]):
            most = segments_limit(segments, size, budget, late=late)
            for limit in [most - 1, most, most + 1, most + 2]:
                if limit < 1:
                    continue
                with self.subTest(segments=segments, size=size, budget=budget, late=late, limit=limit):
                    def replies_of(state):
                        return segments_replies(state, limit, budget, size, segments, late)
                    safe = safe_states(reachable((0, 0, ()), replies_of), replies_of)
                    self.assertEqual(limit <= most, (0, 0, ()) in safe)
                    if limit > most:
                        self.assertEqual(safe, set())


if __name__ == "__main__":
    unittest.main()
