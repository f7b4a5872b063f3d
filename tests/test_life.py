"""carrylog.life: promises [32] to [38], and [3] to [5] for them."""

import random
import unittest
from itertools import product

from carrylog.errors import NoPlace
from carrylog.life import blocked_at, life, newest_play, newest_step, safe, short_at
from carrylog.ring import Ring
from carrylog.rounds import Round
from carrylog.sums import least_free, ring_goes_on
from carrylog.words import best_word, depths, dominates, living, newest, step, worst_word
from tests.games import all_words, lives, ring_lives, ring_put, ring_replies, ring_words
from tests.outcomes import outcome
from tests.refusing import check_every_mix, refused_field

BIG = 10 ** 30
MINUS, ZERO = [-1, -BIG], [0, -1, -BIG]
NO_WORDS = ["0", "01", "2", "1x"]
NO_ROUNDS = [None, 1, [1], (1, 2)]
ROUNDS = [[0], [1], [2], [5], [0, 1], [2, 0], [3, 0, 0], [0, 2, 1]]
FUNCTIONS = [blocked_at, short_at, life, safe, newest_step]


def terms(most, rows=ROUNDS):
    """(places, limit, row, late) for small rings."""
    for places, row, late in product(range(1, most + 1), rows, [False, True]):
        for limit in range(1, places + 1):
            yield places, limit, row, late


def standings(places, limit, row):
    return product(ring_words(places, limit), range(len(row)))


def plain_sum(row, start, count):
    return sum(row[t % len(row)] for t in range(start, start + count))


def plain_blocked(word, places, limit, row, phase, late, t):
    """The condition of [34], word for word."""
    m, n = places - late, word.count("1")
    w = plain_sum(row, phase, t)
    return t >= 0 and w < min(n, limit - 1) and depths(word)[w] + w + t >= m


def plain_short(word, places, limit, row, phase, late, t):
    """The condition of [34], word for word."""
    m, n = places - late, word.count("1")
    if t < max(0, m - n):
        return False
    return m < limit or plain_sum(row, phase + t - (m - limit), m - limit) < limit - 1


def first_that(condition, standing, late):
    found = [t for t in range(60) if condition(*standing, late, t)]
    return found[0] if found else None


class TestFormula(unittest.TestCase):
    """[34], [35]."""

    def test_the_examples(self):
        budgets = Round(1)
        self.assertIsNone(life("", 5, 3, budgets))
        self.assertEqual(life("11000", 5, 3, budgets), 0)
        self.assertEqual(blocked_at("11000", 5, 3, budgets), 0)
        self.assertEqual((blocked_at("1100", 5, 3, budgets), life("1100", 5, 3, budgets)), (1, 1))
        self.assertTrue(safe("1001", 5, 3, budgets))
        self.assertIsNone(blocked_at("1001", 5, 3, budgets))
        self.assertEqual(life("111", 5, 4, budgets), 2)

    def test_word_for_word(self):
        for places, limit, row, late in terms(5):
            for word, phase in standings(places, limit, row):
                for more in [0, len(row) * 7]:
                    standing = (word, places, limit, row, phase + more)
                    call = (word, places, limit, Round(*row), phase + more)
                    blocked = first_that(plain_blocked, standing, late)
                    short = first_that(plain_short, standing, late)
                    critical = min([t for t in [blocked, short] if t is not None], default=None)
                    lasting = 0 if late and len(word) == places else None if critical is None else critical + late
                    self.assertEqual(blocked_at(*call, late=late), blocked, (call, late))
                    self.assertEqual(short_at(*call, late=late), short, (call, late))
                    self.assertEqual(life(*call, late=late), lasting, (call, late))
                    self.assertIs(safe(*call, late=late), lasting is None, (call, late))

    def test_the_edges(self):
        self.assertIsNone(life("1", 1, 1, Round(0)))
        self.assertIsNone(life("1", 2, 1, Round(0), late=True))
        self.assertEqual(life("", 1, 1, Round(9), late=True), 1)
        self.assertEqual(life("1", 1, 1, Round(9), late=True), 0)
        self.assertEqual(life("10", 2, 1, Round(9), late=True), 0)
        self.assertIsNone(life("10", 2, 1, Round(0)))
        self.assertEqual(life("", 5, 2, Round(0)), 5)
        self.assertEqual(life("", 5, 5, Round(9)), 5)
        self.assertEqual(life("11111", 5, 5, Round(9)), 0)

    def test_the_sizes(self):
        huge = Round(BIG, 0, 0, BIG)
        self.assertIsNone(life("1" * 40 + "0" * 4, 64, 42, huge, 10 ** 6))
        self.assertEqual(life("1" * 64, 64, 64, huge, 10 ** 6), 0)
        self.assertEqual(life("1" * 61, 64, 64, huge, 10 ** 6 + 3), 3)
        self.assertEqual(short_at("1" * 10, 64, 64, Round(BIG), 10 ** 6), 54)
        self.assertEqual(blocked_at("1", 64, 2, Round(0), 10 ** 6), 63)
        slow = Round(*[0] * 11, 1)
        self.assertEqual(blocked_at("11" + "0" * 48, 64, 5, slow, 10 ** 6 - 4), 14)
        self.assertIsNone(blocked_at("11", 64, 5, slow, 10 ** 6 - 4))
        self.assertIsNone(life("", 64, 5, slow, 10 ** 6))
        self.assertEqual(len(list(newest_play("", 64, 5, slow, 10 ** 6, most=500))), 500)

    def test_phases_of_any_size(self):
        for phase in range(3):
            for word in ring_words(5, 3):
                for call in [blocked_at, short_at, life, safe]:
                    self.assertEqual(call(word, 5, 3, Round(2, 0, 1), BIG * 3 + phase),
                                     call(word, 5, 3, Round(2, 0, 1), phase=phase))


class TestBestWays(unittest.TestCase):
    """[32], [33]: the life against games searched to the end."""

    def test_the_life_by_search(self):
        for places, limit, row, late in terms(5, [[0], [1], [3], [0, 1], [2, 0], [1, 0, 2]]):
            with self.subTest(places=places, limit=limit, row=row, late=late):
                found = ring_lives(places, limit, row, late)
                self.assertEqual(found, {
                    (word, phase): life(word, places, limit, Round(*row), phase, late=late) for word, phase in found
                })

    def test_the_greedy_keeper_completes_as_many_against_everyone(self):
        for places, limit, row, late in terms(5, [[0], [1], [2], [0, 1], [2, 0, 0]]):
            def greedy(state):
                return [each[-1:] for each in ring_replies(state, places, limit, row, late)]
            found = lives(list(standings(places, limit, row)), greedy)
            for word, phase in found:
                self.assertEqual(life(word, places, limit, Round(*row), phase, late=late), found[word, phase])

    def test_no_keeper_completes_more_against_the_newest_play(self):
        for places, limit, row, late in terms(5, [[0], [1], [2], [0, 1], [2, 0, 0]]):
            def newest_replies(state):
                word, phase = state
                index = None if word.count("1") < limit else newest(word)
                after = (phase + 1) % len(row)
                return [[(each, after) for each in ring_put(word, index, places, row[phase], late)]]
            found = lives(list(standings(places, limit, row)), newest_replies)
            for word, phase in found:
                self.assertEqual(life(word, places, limit, Round(*row), phase, late=late), found[word, phase])

    def test_better_words_and_terms_never_shorten_a_life(self):
        def number(lasting):
            return BIG if lasting is None else lasting
        words = all_words(5)
        pairs = [pair for pair in product(words, repeat=2) if dominates(*pair)]
        for row, late in product([[1], [2], [0, 1], [2, 0]], [False, True]):
            found = {}
            for places, phase in product([5, 6, 7], range(len(row))):
                for word, limit in product(words, range(1, 6)):
                    if living(word) <= limit:
                        for more in [0, 1]:
                            budgets = Round(*[budget + more for budget in row])
                            lasting = life(word, places, limit, budgets, phase, late=late)
                            found[word, places, limit, phase, more] = number(lasting)
            for word, places, limit, phase, more in found:
                now = found[word, places, limit, phase, more]
                self.assertLessEqual(now, found.get((word, places + 1, limit, phase, more), BIG))
                self.assertLessEqual(now, found.get((word, places, limit - 1, phase, more), BIG))
                self.assertLessEqual(now, found.get((word, places, limit, phase, more + 1), BIG))
            for places, limit, phase in product([5, 6, 7], range(1, 6), range(len(row))):
                for first, second in pairs:
                    if living(second) <= limit:
                        self.assertGreaterEqual(found[first, places, limit, phase, 0],
                                                found[second, places, limit, phase, 0])


class TestBounds(unittest.TestCase):
    """[36], [37]."""

    def test_short_at_is_none_exactly_if_the_rule_holds(self):
        for places, limit, row, late in terms(6):
            goes_on = ring_goes_on(places, limit, Round(*row), late=late)
            for word, phase in standings(places, limit, row):
                self.assertIs(short_at(word, places, limit, Round(*row), phase, late=late) is None, goes_on)

    def test_lives_if_the_rule_fails(self):
        for places, limit, row, late in terms(6):
            if ring_goes_on(places, limit, Round(*row), late=late):
                continue
            for word, phase in standings(places, limit, row):
                lasting = life(word, places, limit, Round(*row), phase, late=late)
                self.assertLessEqual(lasting, places - living(word) + len(row) - 1)
            for count, phase in product(range(limit + 1), range(len(row))):
                lasting = life(best_word(count), places, limit, Round(*row), phase, late=late)
                self.assertGreaterEqual(lasting, places - count)
                if len(row) == 1:
                    self.assertEqual(lasting, places - count)

    def test_safe_exactly_if_not_blocked_and_not_full(self):
        for places, limit, row, late in terms(6):
            budgets = Round(*row)
            if not ring_goes_on(places, limit, budgets, late=late):
                continue
            enough = least_free(limit, budgets) + late
            for word, phase in standings(places, limit, row):
                expected = blocked_at(word, places, limit, budgets, phase, late=late) is None
                expected = expected and not (late and len(word) == places)
                is_safe = safe(word, places, limit, budgets, phase, late=late)
                self.assertIs(is_safe, expected)
                if word == "" or places - len(word) >= enough:
                    self.assertTrue(is_safe)

    def test_least_free_is_exact(self):
        for places, limit, row, late in terms(7):
            budgets = Round(*row)
            if limit >= 2 and ring_goes_on(places, limit, budgets, late=late):
                word = worst_word(limit, places - least_free(limit, budgets) + 1 - late)
                found = [safe(word, places, limit, budgets, phase, late=late) for phase in range(len(row))]
                self.assertIn(False, found)

    def test_the_play_that_stalls_a_ring_with_readers(self):
        """[36]: new keys, then readers with all keys put anew, then the newest play."""
        checked = 0
        for seed in range(150):
            draw = random.Random(seed)
            places, readers = draw.randrange(2, 12), draw.randrange(1, 4)
            limit, row = draw.randrange(1, min(places, 4) + 1), draw.choice(ROUNDS)
            if ring_goes_on(places, limit, Round(*row), readers=readers):
                continue
            ring = Ring(places, limit, Round(*row), readers=readers)
            keys = [f"k{number}" for number in range(limit)]
            for _ in range(draw.randrange(12)):
                outcome(ring.put, draw.choice(keys), 0)
            bound = places - len(ring) + len(row) - 1
            completed = 0
            for key in self.reader_play(ring, keys):
                count = draw.choice([None, None, 0, 1, 2])
                came = outcome(ring.put, key, 0, count)[0]
                if came == "BadChoice":
                    came = outcome(ring.put, key, 0)[0]
                if came == "Stalled":
                    break
                completed += 1
                self.assertLessEqual(completed, bound, seed)
            checked += 1
        self.assertGreater(checked, 50)

    def reader_play(self, ring, keys):
        for key in keys:
            if key not in ring:
                yield key
        for _ in range(ring.readers):
            ring.open_reader()
            yield from keys
        while True:
            yield list(ring.table())[-1]


class TestNewestPlay(unittest.TestCase):
    """[38]."""

    def test_a_step(self):
        self.assertEqual(newest_step("1001", 5, 3, Round(1)), step("1001", None, 1, 5))
        self.assertEqual(newest_step("1001", 5, 2, Round(0, 1), 1), step("1001", 1, 1, 5))
        self.assertEqual(newest_step("1001", 5, 2, Round(0, 1), 0), step("1001", 1, 0, 5))
        self.assertEqual(newest_step("", 5, 2, Round(BIG)), "1")
        self.assertEqual(newest_step("1", 1, 1, Round(BIG)), "1")
        for late in [False, True]:
            with self.assertRaises(NoPlace) as caught:
                newest_step("11000", 5, 2, Round(9), late=late)
            self.assertEqual(caught.exception.length, 5)

    def test_every_step_and_play(self):
        for places, limit, row, late in terms(5):
            for word, phase in standings(places, limit, row):
                call = (word, places, limit, Round(*row), phase)
                index = None if living(word) < limit else newest(word)
                after = ring_put(word, index, places, row[phase], late)
                expected = ("done", after[-1]) if after else ("NoPlace", places)
                self.assertEqual(outcome(newest_step, *call, late=late), expected)
                lasting = life(*call, late=late)
                words = list(newest_play(*call, late=late, most=30))
                self.assertEqual(len(words), 30 if lasting is None else lasting)
                for t, each in enumerate(words):
                    word = newest_step(word, places, limit, Round(*row), phase + t, late=late)
                    self.assertEqual(each, word)

    def test_most(self):
        self.assertEqual(list(newest_play("", 5, 3, Round(1), most=0)), [])
        self.assertEqual(list(newest_play("", 5, 3, Round(1), most=1)), ["1"])
        self.assertEqual(len(list(newest_play("", 5, 3, Round(1)))), 64)
        self.assertEqual(list(newest_play("11000", 5, 2, Round(1))), [])
        self.assertEqual(list(newest_play("", 3, 3, Round(1))), ["1", "11", "111"])


class TestRefusals(unittest.TestCase):
    """[5]."""

    def test_each_limit(self):
        good = {"word": "101", "places": 5, "limit": 3, "budgets": Round(1), "phase": 0}
        broken = {"word": NO_WORDS, "places": ZERO, "limit": ZERO, "budgets": NO_ROUNDS, "phase": MINUS}
        for call, late in product(FUNCTIONS, [False, True]):
            check_every_mix(self, call, good, broken, {"late": late})

    def test_each_limit_beside_a_full_word(self):
        good = {"word": "101", "places": 3, "limit": 2, "budgets": Round(1), "phase": 0}
        for call in FUNCTIONS[:4]:
            check_every_mix(self, call, good, {"limit": ZERO, "budgets": NO_ROUNDS, "phase": MINUS},
                            {"late": True})
            self.assertEqual(refused_field(call, "101", 3, 4, Round(1), late=True), "limit")
            self.assertEqual(refused_field(call, "101", 3, 1, Round(1), late=True), "word")

    def test_each_limit_of_the_play(self):
        def play(*args, **named):
            return list(newest_play(*args, **named))
        good = {"word": "101", "places": 5, "limit": 3, "budgets": Round(1), "phase": 0}
        broken = {"word": NO_WORDS, "places": ZERO, "limit": ZERO, "budgets": NO_ROUNDS, "phase": MINUS, "most": MINUS}
        check_every_mix(self, play, good, broken, {"late": False, "most": 5})
        self.assertEqual(refused_field(play, "1111", 3, 4, Round(1), most=-1), "most")
        self.assertEqual(refused_field(play, "1111", 3, 4, Round(1), most=0), "word")
        self.assertEqual(refused_field(play, "111", 3, 4, Round(1), most=0), "limit")

    def test_limits_between_arguments_come_after_all_others(self):
        for call in FUNCTIONS:
            for args, field in [
                (("1000", 3, 3, Round(1)), "word"), (("111", 3, 2, Round(1)), "word"),
                (("1000", 3, 4, Round(1)), "word"), (("111", 3, 4, Round(1)), "limit"),
                (("1000", 3, 4, Round(1), -1), "phase"), (("1000", 3, 0, Round(1)), "limit"),
                (("1000", 0, 4, Round(1)), "places"), (("11", 3, 1, Round(1)), "word"),
                (("1" * 100, 64, 70, Round(1)), "word"), (("", 64, 65, Round(1)), "limit"),
                (("111", 3, 3, Round(1)), None),
            ]:
                with self.subTest(call=call.__name__, args=args):
                    if field or call is not newest_step:
                        self.assertEqual(refused_field(call, *args), field)

    def test_limits_come_before_no_place(self):
        self.assertEqual(refused_field(newest_step, "111", 3, 2, Round(1)), "word")
        self.assertEqual(refused_field(newest_step, "111", 3, 3, Round(1), -1), "phase")


if __name__ == "__main__":
    unittest.main()
