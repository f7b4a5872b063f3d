"""carrylog.words: promises [15] to [20], and [3] to [5] for them."""

import unittest
from itertools import product

from carrylog.errors import NoPlace
from carrylog.words import (
    append_record, best_word, carries, carry, depths, dominates, living, newest, normal, release, step, word_of,
    worst_word,
)
from tests.games import all_words, carried, ring_moves, ring_put, without
from tests.refusing import check_every_mix, refused_field

BIG = 10 ** 30
MINUS, ZERO = [-1, -BIG], [0, -1, -BIG]
NO_WORDS = ["0", "01", "2", "1 ", "1a1", "-1", "\n", "1\n", "0" * 70, "1" * 70 + "x"]


def plain_step(word, index, count, places, late):
    """The word after a put that carries as many as count allows, or None if it stalls."""
    after = ring_put(word, index, places, count, late)
    if late:
        return after[-1] if after else None
    moved = carried(without(word, index), min(count, without(word, index).count("1")), places)[-1]
    return moved + "1" if len(moved) < places else None


def step_or_none(*args, **named):
    try:
        return step(*args, **named)
    except NoPlace:
        return None


def best_pairs(words):
    return [(first, second) for first, second in product(words, repeat=2) if dominates(first, second)]


class TestParts(unittest.TestCase):
    """[15] to [17]."""

    def test_normal(self):
        self.assertEqual([normal(text) for text in ["", "0", "000", "1", "0010", "100", "01010"]],
                         ["", "", "", "1", "10", "100", "1010"])

    def test_living(self):
        self.assertEqual([living(word) for word in ["", "1", "10", "11001", "1" * 64]], [0, 1, 1, 3, 64])

    def test_depths(self):
        self.assertEqual(depths("11001"), [5, 4, 1])
        self.assertEqual(depths(""), [])
        self.assertEqual(depths("1000"), [4])
        self.assertEqual(depths("1" * 64), list(range(64, 0, -1)))

    def test_word_of(self):
        self.assertEqual(word_of([5, 4, 1]), "11001")
        self.assertEqual(word_of([]), "")
        self.assertEqual(word_of([4]), "1000")
        self.assertEqual(word_of([64]), "1" + "0" * 63)
        for word in all_words(8):
            self.assertEqual(word_of(depths(word)), word)

    def test_depths_are_new_and_word_of_changes_nothing(self):
        row = [5, 4, 1]
        word_of(row)
        self.assertEqual(row, [5, 4, 1])
        found = depths("11001")
        found.append(0)
        self.assertEqual(depths("11001"), [5, 4, 1])

    def test_release(self):
        self.assertEqual(release("1101", 2), "1100")
        self.assertEqual(release("1101", 1), "1001")
        self.assertEqual(release("1101", 0), "101")
        self.assertEqual(release("1001", 0), "1")
        self.assertEqual(release("1", 0), "")
        self.assertEqual(release("1000", 0), "")
        for word in all_words(7):
            for index in range(living(word)):
                self.assertEqual(release(word, index), without(word, index))

    def test_carry(self):
        self.assertEqual(carry("1100", 6), "1001")
        self.assertEqual(carry("1001", 6), "11")
        self.assertEqual(carry("", 3), "")
        self.assertEqual(carry("110", 3), "110")
        self.assertEqual(carry("1", 1), "1")
        self.assertEqual(carry("1", 2), "1")
        self.assertEqual(carry("100", 4), "1")
        self.assertEqual(carry("111", 4), "111")

    def test_carries(self):
        self.assertEqual(carries("1100", 0, 6), "1100")
        self.assertEqual(carries("1100", 1, 6), "1001")
        self.assertEqual(carries("1100", 2, 6), "11")
        self.assertEqual(carries("", 200, 6), "")
        self.assertEqual(carries("110", 200, 3), "110")
        self.assertEqual(carries("1" + "0" * 60 + "1", 200, 64), "11")
        for word, places in product(all_words(6), [6, 7, 9]):
            expected = word
            for count in range(9):
                self.assertEqual(carries(word, count, places), expected)
                expected = carry(expected, places)

    def test_append_record(self):
        self.assertEqual(append_record("10", 3), "101")
        self.assertEqual(append_record("10", 3, "1"), "101")
        self.assertEqual(append_record("10", 3, "0"), "100")
        self.assertEqual(append_record("10", 3, record="0"), "100")
        self.assertEqual(append_record("", 1), "1")
        self.assertEqual(append_record("", 1, "0"), "")

    def test_append_record_without_a_place(self):
        for word, record in product(["100", "111"], "01"):
            with self.assertRaises(NoPlace) as caught:
                append_record(word, 3, record)
            self.assertEqual(caught.exception.length, 3)


class TestStep(unittest.TestCase):
    """[18]: a whole put."""

    def test_the_example(self):
        self.assertEqual(release("1101", 2), "1100")
        self.assertEqual(carries("1100", 1, 6), "1001")
        self.assertEqual(carries("1100", 2, 6), "11")
        self.assertEqual(step("1101", 2, 2, 6), "111")

    def test_a_new_key(self):
        self.assertEqual(step("", None, 5, 1), "1")
        self.assertEqual(step("", None, 5, 2, late=True), "1")
        self.assertEqual(step("110", None, 0, 5), "1101")
        self.assertEqual(step("110", None, 0, 5, late=True), "1101")
        self.assertEqual(step("110", None, 1, 5), "1011")
        self.assertEqual(step("110", None, 1, 5, late=True), "1011")

    def test_the_one_place(self):
        self.assertEqual(step("1", 0, 3, 1), "1")
        self.assertIsNone(step_or_none("1", 0, 3, 1, late=True))
        self.assertIsNone(step_or_none("1", None, 3, 1))

    def test_the_late_step_appends_before_it_releases(self):
        self.assertIsNone(step_or_none("111", 2, 0, 3, late=True))
        self.assertIsNone(step_or_none("111", 2, 0, 3))
        self.assertEqual(step("111", 0, 0, 3), "111")
        self.assertIsNone(step_or_none("111", 0, 0, 3, late=True))
        self.assertEqual(step("111", 2, 0, 4, late=True), "1101")
        self.assertEqual(step("111", 2, 1, 4, late=True), "1101")
        self.assertEqual(step("111", 0, 1, 4, late=True), "111")
        self.assertEqual(step("1", 0, 9, 4, late=True), "1")

    def test_the_others_alone_are_carried(self):
        # With one carry more the new record would follow the others around.
        self.assertEqual(step("11", None, BIG, 9, late=True), "111")
        self.assertEqual(step("101", None, BIG, 9, late=True), "111")
        self.assertEqual(step("101", 1, BIG, 9), "11")
        self.assertEqual(step("1" + "0" * 50 + "1", None, BIG, 64), "111")

    def test_no_place_names_the_places(self):
        for late in [False, True]:
            with self.assertRaises(NoPlace) as caught:
                step("1101", None, 2, 4, late=late)
            self.assertEqual(caught.exception.length, 4)

    def test_carrying_stops_without_an_error_when_no_place_is_free(self):
        self.assertEqual(step("1101", None, 3, 5, late=True), "11011")
        self.assertEqual(step("1101", None, 3, 6, late=True), "1111")
        # Without a place for a copy none is free for the append either.
        self.assertIsNone(step_or_none("1111", 1, 1, 4))

    def test_every_small_step(self):
        for places, late, word in product(range(1, 7), [False, True], all_words(6)):
            if len(word) > places:
                continue
            for index, count in product(ring_moves(word, 9), [0, 1, 2, 3, 7]):
                with self.subTest(word=word, index=index, count=count, places=places, late=late):
                    self.assertEqual(step_or_none(word, index, count, places, late=late),
                                     plain_step(word, index, count, places, late))


class TestOrder(unittest.TestCase):
    """[19]: which word is better, and the best and the worst one."""

    def test_dominates(self):
        for first, second in [("", ""), ("", "1"), ("1", "10"), ("101", "110"), ("11", "111"), ("11", "100001"),
                              ("1", "11"), ("100", "100"), ("100", "111"), ("101", "101"), ("1001", "10001")]:
            self.assertIs(dominates(first, second), True, (first, second))
        for first, second in [("1", ""), ("10", "1"), ("110", "101"), ("111", "11"), ("1000", "111"), ("11", "1"),
                              ("110", "1001"), ("10001", "1001")]:
            self.assertIs(dominates(first, second), False, (first, second))

    def test_dominates_word_for_word(self):
        for first, second in product(all_words(5), repeat=2):
            mine, others = depths(first), depths(second)
            expected = len(mine) <= len(others) and all(mine[k] <= others[k] for k in range(len(mine)))
            self.assertIs(dominates(first, second), expected)

    def test_newest(self):
        self.assertIsNone(newest(""))
        self.assertEqual([newest(word) for word in ["1", "100", "1010", "111"]], [0, 0, 1, 2])

    def test_best_and_worst_word(self):
        self.assertEqual([best_word(count) for count in [0, 1, 4]], ["", "1", "1111"])
        self.assertEqual(best_word(64), "1" * 64)
        self.assertEqual([worst_word(*pair) for pair in [(0, 0), (1, 1), (1, 4), (3, 3), (3, 5)]],
                         ["", "1", "1000", "111", "11100"])

    def test_every_word_is_between_the_best_and_the_worst(self):
        """[20]"""
        for word in all_words(7):
            self.assertTrue(dominates(best_word(living(word)), word))
            for length in range(len(word), 9 if word else 1):
                self.assertTrue(dominates(word, worst_word(living(word), length)))


class TestDominationIsKept(unittest.TestCase):
    """[20], for all pairs of small words."""

    def test_by_release(self):
        for a, b in best_pairs(all_words(6)):
            for index in range(living(a)):
                left = release(a, index)
                self.assertTrue(dominates(left, b), (a, b, index))
                self.assertTrue(dominates(left, release(b, newest(b))), (a, b, index))

    def test_by_carry_and_append(self):
        for a, b in best_pairs(all_words(6)):
            for places in range(max(len(a), len(b), 1), 9):
                self.assertTrue(dominates(carry(a, places), carry(b, places)), (a, b, places))
                if len(b) < places:
                    self.assertTrue(dominates(append_record(a, places), append_record(b, places)), (a, b, places))

    def test_carrying_never_hurts(self):
        for word in all_words(8):
            for places in range(max(len(word), 1), 10):
                self.assertTrue(dominates(carry(word, places), word))

    def test_writing_first_is_the_same_in_one_place_more(self):
        for word in all_words(6):
            for places in range(max(len(word), 1), 8):
                for index, count in product(ring_moves(word, 9), [0, 1, 2, 5, BIG]):
                    early = step_or_none(word, index, count, places)
                    late = step(word, index, count, places + 1, late=True)
                    if early is None:
                        self.assertEqual(len(late), places + 1)
                    else:
                        self.assertEqual(late, early)


class TestRefusals(unittest.TestCase):
    """[5]: each limit, alone and with others."""

    def test_of_one_argument(self):
        for call in [living, depths, newest]:
            check_every_mix(self, call, {"word": "101"}, {"word": NO_WORDS})
        check_every_mix(self, normal, {"text": "0101"}, {"text": ["2", "01 ", "a", "0x1", "1\n", "0" * 80 + "-"]})
        check_every_mix(self, best_word, {"count": 0}, {"count": MINUS})

    def test_of_word_of(self):
        wrong = [
            [0], [-1], [2, 0], [1, 2], [3, 3], [5, 4, 4], [5, 1, 2], [True], [2, True], [2, False], [None], [3, "2"],
            [2.0], [3, 2.0], ["1"], [(1,)], [[1]], [BIG, 3, 5], [-BIG],
        ]
        check_every_mix(self, word_of, {"depths": [3, 1]}, {"depths": wrong})

    def test_of_the_parts(self):
        check_every_mix(self, release, {"word": "101", "index": 1}, {"word": NO_WORDS, "index": [2, *MINUS, BIG]})
        check_every_mix(self, carry, {"word": "101", "places": 3}, {"word": NO_WORDS, "places": [2, *ZERO]})
        check_every_mix(self, carries, {"word": "101", "count": 0, "places": 3},
                        {"word": NO_WORDS, "count": MINUS, "places": [2, *ZERO]})
        check_every_mix(self, append_record, {"word": "10", "places": 3, "record": "0"},
                        {"word": NO_WORDS, "places": ZERO, "record": ["", "2", "00", "10", "x"]})

    def test_of_two_words(self):
        check_every_mix(self, dominates, {"first": "1", "second": "11"}, {"first": NO_WORDS, "second": NO_WORDS})

    def test_of_step(self):
        good = {"word": "101", "index": 1, "count": 0, "places": 4}
        broken = {"word": NO_WORDS, "index": MINUS, "count": MINUS, "places": ZERO}
        check_every_mix(self, step, good, broken)
        check_every_mix(self, step, good, broken, {"late": True})

    def test_of_worst_word(self):
        self.assertEqual(refused_field(worst_word, -1, 0), "count")
        self.assertEqual(refused_field(worst_word, -1, -1), "count")
        self.assertEqual(refused_field(worst_word, 3, 2), "length")
        self.assertEqual(refused_field(worst_word, 0, 1), "length")
        self.assertEqual(refused_field(worst_word, 0, -1), "length")
        self.assertIsNone(refused_field(worst_word, 0, 0))
        self.assertIsNone(refused_field(worst_word, 3, 3))

    def test_limits_between_arguments_come_after_all_others(self):
        self.assertEqual(refused_field(release, "1", 1), "index")
        self.assertEqual(refused_field(release, "", 0), "index")
        for call in [lambda places: carry("", places), lambda places: carries("", 0, places),
                     lambda places: append_record("", places), lambda places: step("", None, 0, places)]:
            check_every_mix(self, call, {"places": 1}, {"places": ZERO})
        self.assertEqual(refused_field(append_record, "111", 2, "x"), "record")
        self.assertEqual(refused_field(append_record, "111", 2, "0"), "places")
        self.assertEqual(refused_field(carries, "111", -1, 2), "count")
        self.assertEqual(refused_field(step, "111", 3, -1, 2), "count")
        self.assertEqual(refused_field(step, "111", 3, 0, 0), "places")
        self.assertEqual(refused_field(step, "111", 3, 0, 2), "index")
        self.assertEqual(refused_field(step, "111", 2, 0, 2), "places")
        self.assertEqual(refused_field(step, "111", None, 0, 2), "places")
        self.assertEqual(refused_field(step, "", 0, 0, 2), "index")

    def test_limits_come_before_no_place(self):
        self.assertEqual(refused_field(append_record, "111", 3, "2"), "record")
        self.assertEqual(refused_field(step, "111", 3, 0, 3, late=True), "index")
        self.assertEqual(refused_field(step, "111", None, -1, 3), "count")


if __name__ == "__main__":
    unittest.main()
