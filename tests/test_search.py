"""The rules of the ring and of segments against games that are searched to the end.

[2], [9], [11] and [13]: the games are written out in tests.games from the words
of the document alone and use nothing of the package but the rules under test.
"""

import unittest
from itertools import product

from carrylog.rounds import Round
from carrylog.sums import ring_goes_on, segments_limit
from tests.games import reachable, ring_replies, ring_words, safe_states, segments_replies


class TestRingByHand(unittest.TestCase):
    """[11]: True exactly if the empty ring is safe; if False, nothing is safe."""

    def test_small_rings(self):
        rows = [[0], [1], [2], [4], [0, 1], [2, 0], [3, 0], [1, 0, 0], [0, 2, 1]]
        for places, row, late in product(range(1, 6), rows, [False, True]):
            for limit in range(1, places + 1):
                with self.subTest(places=places, limit=limit, row=row, late=late):
                    states = list(product(ring_words(places, limit), range(len(row))))
                    safe = safe_states(states, lambda state: ring_replies(state, places, limit, row, late))
                    goes_on = ring_goes_on(places, limit, Round(*row), late=late)
                    self.assertEqual(goes_on, ("", 0) in safe)
                    self.assertEqual(goes_on, len(safe) > 0)


class TestSegmentsByHand(unittest.TestCase):
    """[13]: some keeper goes on forever from empty up to the limit, none above it."""

    def test_small_segments(self):
        houses = [(1, 1), (1, 3), (2, 1), (2, 2), (2, 3), (2, 4), (3, 1), (3, 2), (4, 1), (4, 2)]
        for (segments, size), budget, late in product(houses, range(4), [False, True]):
            most = segments_limit(segments, size, budget, late=late)
            for limit in [most - 1, most, most + 1, most + 2]:
                if limit < 1:
                    continue
                with self.subTest(segments=segments, size=size, budget=budget, late=late, limit=limit):
                    def replies_of(state):
                        return segments_replies(state, limit, budget, size, segments, late)
                    safe = safe_states(reachable((0, 0, ()), replies_of), replies_of)
                    self.assertEqual(limit <= most, (0, 0, ()) in safe)
                    if limit > most:
                        self.assertEqual(safe, set())


if __name__ == "__main__":
    unittest.main()
