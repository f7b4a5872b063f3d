"""carrylog.counts: promises [43] and [44], and [3] to [5] for them."""

import unittest
from itertools import product
from math import comb

from carrylog.counts import count_safe, count_words, rank_of, safe_words, word_at
from carrylog.life import blocked_at, safe
from carrylog.rounds import Round
from carrylog.sums import ring_goes_on
from tests.games import all_words, ring_lives
from tests.refusing import check_every_mix, refused_field

BIG = 10 ** 30
MINUS, ZERO = [-1, -BIG], [0, -1, -BIG]
NO_WORDS = ["0", "01", "2", "1x"]
ROUNDS = [[0], [1], [2], [5], [0, 1], [2, 0], [3, 0, 0], [0, 2, 1]]


def words_with(places, count):
    return [word for word in all_words(places) if word.count("1") == count]


class TestWords(unittest.TestCase):
    """[43]."""

    def test_the_example(self):
        self.assertEqual(count_words(3, 2), 3)
        self.assertEqual([word_at(rank, 3, 2) for rank in range(3)], ["11", "101", "110"])
        self.assertEqual([rank_of(word) for word in ["11", "101", "110"]], [0, 1, 2])

    def test_all_small_words(self):
        for places, count in product(range(1, 9), range(10)):
            words = words_with(places, count)
            self.assertEqual(count_words(places, count), len(words))
            self.assertEqual([word_at(rank, places, count) for rank in range(len(words))], words)
            self.assertEqual([rank_of(word) for word in words], list(range(len(words))))

    def test_the_edges(self):
        self.assertEqual((count_words(1, 0), word_at(0, 1, 0), rank_of("")), (1, "", 0))
        self.assertEqual((count_words(5, 6), count_words(5, BIG)), (0, 0))
        self.assertEqual((count_words(5, 5), word_at(0, 5, 5), rank_of("11111")), (1, "11111", 0))
        self.assertEqual((word_at(9, 10, 1), rank_of("1000000000")), ("1000000000", 9))

    def test_the_sizes(self):
        self.assertEqual(count_words(60, 30), comb(60, 30))
        for count in [1, 7, 30, 59, 60]:
            most = count_words(60, count)
            for rank in {0, 1 % most, most // 3, most // 2, most - 1}:
                word = word_at(rank, 60, count)
                self.assertEqual((word.count("1"), rank_of(word)), (count, rank))
        self.assertEqual(word_at(count_words(60, 30) - 1, 60, 30), "1" * 30 + "0" * 30)
        self.assertEqual(rank_of("1" * 30 + "0" * 30), comb(60, 30) - 1)


class TestSafe(unittest.TestCase):
    """[43], [44]."""

    def terms(self, most):
        for places, row, late in product(range(1, most + 1), ROUNDS, [False, True]):
            for limit, phase in product(range(1, places + 1), range(len(row) + 1)):
                yield places, limit, row, phase, late

    def test_all_small_rings(self):
        for places, limit, row, phase, late in self.terms(6):
            budgets = Round(*row)
            for count in range(limit + 1):
                call = (places, limit, budgets, phase, count)
                words = [word for word in words_with(places, count)
                         if safe(word, places, limit, budgets, phase, late=late)]
                self.assertEqual(list(safe_words(*call, late=late)), words)
                self.assertEqual(count_safe(*call, late=late), len(words), (call, row, late))
                if not ring_goes_on(places, limit, budgets, late=late):
                    self.assertEqual(count_safe(*call, late=late), 0)

    def test_against_the_search(self):
        for places, row, late in product(range(1, 5), [[0], [1], [0, 1], [2, 0]], [False, True]):
            for limit in range(1, places + 1):
                found = ring_lives(places, limit, row, late)
                for count, phase in product(range(limit + 1), range(len(row))):
                    words = [word for word, at in found
                             if at == phase and word.count("1") == count and found[word, at] is None]
                    self.assertEqual(list(safe_words(places, limit, Round(*row), phase, count, late=late)), words)
                    self.assertEqual(count_safe(places, limit, Round(*row), phase, count, late=late), len(words))

    def test_the_lists_of_depths_that_meet_no_condition(self):
        """[44]"""
        for places, limit, row, phase, late in self.terms(6):
            budgets = Round(*row)
            if ring_goes_on(places, limit, budgets, late=late):
                for count in range(limit + 1):
                    left = [word for word in words_with(places, count)
                            if blocked_at(word, places, limit, budgets, phase, late=late) is None
                            and not (late and len(word) == places)]
                    self.assertEqual(count_safe(places, limit, budgets, phase, count, late=late), len(left))

    def test_the_edges(self):
        self.assertEqual(count_safe(1, 1, Round(0), 0, 0), 1)
        self.assertEqual(count_safe(1, 1, Round(0), 0, 1), 1)
        self.assertEqual(count_safe(1, 1, Round(0), 0, 1, late=True), 0)
        self.assertEqual(count_safe(9, 1, Round(0), 0, 1), 9)
        self.assertEqual(count_safe(9, 1, Round(0), 0, 1, late=True), 8)
        self.assertEqual(count_safe(9, 2, Round(0, 0), 0, 0), 0)
        self.assertEqual(list(safe_words(9, 2, Round(0, 0), 0, 0)), [])
        self.assertEqual(list(safe_words(5, 3, Round(1), 0, 0)), [""])

    def test_the_sizes(self):
        # With so great a budget nothing but a log without a place at first can block.
        self.assertEqual(count_safe(60, 31, Round(BIG), BIG, 30), comb(59, 30))
        self.assertEqual(count_safe(60, 31, Round(BIG), BIG, 30, late=True), comb(58, 30))
        slow = Round(*[0] * 11, 1)
        found = [count_safe(60, 4, slow, phase, 4) for phase in range(12)]
        self.assertEqual([count > 0 for count in found], [True] * 12)
        self.assertEqual(len(list(safe_words(10, 5, Round(1), 10 ** 6, 5))), count_safe(10, 5, Round(1), 0, 5))

    def test_sixty_places_word_by_word(self):
        words = [word_at(rank, 60, 2) for rank in range(count_words(60, 2))]
        for row, phase, late in [([1], 0, False), ([0, 0, 2], 1, False), ([0, 3], 10 ** 6, True)]:
            alive = [word for word in words if safe(word, 60, 20, Round(*row), phase, late=late)]
            self.assertEqual(count_safe(60, 20, Round(*row), phase, 2, late=late), len(alive))
            self.assertTrue(0 < len(alive) < len(words))

    def test_a_great_ring_word_by_word(self):
        for late in [False, True]:
            for phase, count in product(range(3), range(4)):
                call = (20, 9, Round(0, 0, 5), phase)
                words = [word_at(rank, 20, count) for rank in range(count_words(20, count))]
                alive = [word for word in words if safe(word, 20, 9, Round(0, 0, 5), phase, late=late)]
                self.assertEqual(count_safe(*call, count, late=late), len(alive))


class TestRefusals(unittest.TestCase):
    """[5]."""

    def test_each_limit(self):
        check_every_mix(self, count_words, {"places": 3, "count": 2}, {"places": ZERO, "count": MINUS})
        check_every_mix(self, word_at, {"rank": 2, "places": 3, "count": 2},
                        {"rank": MINUS, "places": ZERO, "count": MINUS})
        check_every_mix(self, rank_of, {"word": "101"}, {"word": NO_WORDS})

    def test_each_limit_of_safe_words(self):
        def listed(*args, **named):
            return list(safe_words(*args, **named))
        good = {"places": 5, "limit": 3, "budgets": Round(1), "phase": 0, "count": 2}
        broken = {
            "places": ZERO, "limit": ZERO, "budgets": [None, 1, [1]], "phase": MINUS, "count": MINUS,
        }
        for call, late in product([count_safe, listed], [False, True]):
            check_every_mix(self, call, good, broken, {"late": late})
            self.assertEqual(refused_field(call, 5, 6, Round(1), 0, 2), "limit")
            self.assertEqual(refused_field(call, 5, 6, Round(1), 0, 7), "limit")
            self.assertEqual(refused_field(call, 5, 6, Round(1), 0, -1), "count")
            self.assertEqual(refused_field(call, 5, 6, Round(1), -1, 2), "phase")
            self.assertEqual(refused_field(call, 5, 3, Round(1), 0, 4), "count")
            self.assertEqual(refused_field(call, 5, 3, Round(0), 0, BIG), "count")
            self.assertIsNone(refused_field(call, 5, 3, Round(1), 0, 3))

    def test_the_rank_comes_after_all_others(self):
        self.assertEqual(refused_field(word_at, 3, 3, 2), "rank")
        self.assertEqual(refused_field(word_at, BIG, 3, 2), "rank")
        self.assertEqual(refused_field(word_at, 3, 0, 2), "places")
        self.assertEqual(refused_field(word_at, 3, 3, -1), "count")
        self.assertEqual(refused_field(word_at, 0, 3, 4), "rank")
        self.assertEqual(refused_field(word_at, 1, 3, 0), "rank")
        self.assertIsNone(refused_field(word_at, 0, 3, 0))


if __name__ == "__main__":
    unittest.main()
