"""carrylog.papers: promises [39] to [42], and [3] to [5] for them."""

import random
import unittest
from itertools import product

from carrylog.life import blocked_at, life, newest_play, newest_step, safe, short_at
from carrylog.papers import forever_holds, forever_paper, stall_holds, stall_paper, steady_word
from carrylog.rounds import Round
from carrylog.sums import ring_goes_on
from carrylog.words import depths, dominates, living
from tests.games import all_words, ring_words
from tests.outcomes import outcome
from tests.refusing import check_every_mix, refused_field

BIG = 10 ** 30
HUGE = 10 ** 3000
MINUS, ZERO = [-1, -BIG], [0, -1, -BIG]
NO_WORDS = ["0", "01", "2", "1x"]
NO_ROUNDS = [None, 1, [1], (1, 2)]
ROUNDS = [[0], [1], [2], [5], [0, 1], [2, 0], [3, 0, 0], [0, 2, 1]]


def terms(most):
    """(places, limit, row, late) for small rings."""
    for places, row, late in product(range(1, most + 1), ROUNDS, [False, True]):
        for limit in range(1, places + 1):
            yield places, limit, row, late


def standings(places, limit, row):
    return product(ring_words(places, limit), range(len(row)))


def plain_sum(row, start, count):
    return sum(row[t % len(row)] for t in range(start, start + count))


def plain_steady_depths(limit, row, phase):
    """[39], word for word, from the tail."""
    found = [1]
    for behind in range(1, limit):
        count = 1
        while sum(row[(phase - 1 - back) % len(row)] for back in range(count)) < behind:
            count += 1
        found.append(behind + count)
    return found[::-1]


def plain_forever_holds(paper, word, places, limit, row, phase, late):
    """[40], word for word."""
    words, back = paper
    if not all(text in all_words(places) and text.count("1") <= limit for text in words):
        return False
    if back not in range(len(words)) or not dominates(word, words[0]):
        return False
    for index, text in enumerate(words):
        kind, after = outcome(newest_step, text, places, limit, Round(*row), phase + index, late=late)
        aim = words[index + 1] if index + 1 < len(words) else words[back]
        if kind != "done" or not dominates(after, aim):
            return False
    return (len(words) - back) % len(row) == 0


def plain_stall_holds(paper, word, places, limit, row, phase, late):
    """[42] and [34], word for word."""
    kind, t = paper
    m, n = places - late, word.count("1")
    if kind == "blocked" and t >= 0:
        w = plain_sum(row, phase, t)
        return w < min(n, limit - 1) and depths(word)[w] + w + t >= m
    if kind == "short" and t >= max(0, m - n):
        return m < limit or plain_sum(row, phase + t - (m - limit), m - limit) < limit - 1
    return kind == "full" and late and len(word) == places and t == 0


class TestSteadyWords(unittest.TestCase):
    """[39]."""

    def test_by_hand(self):
        self.assertEqual(steady_word(1, Round(0), 0), "1")
        self.assertEqual(steady_word(1, Round(7, 0), 5), "1")
        self.assertIsNone(steady_word(2, Round(0), 0))
        self.assertIsNone(steady_word(5, Round(0, 0, 0), 1))
        self.assertEqual(steady_word(3, Round(1), 0), "1011")
        self.assertEqual(steady_word(4, Round(BIG), 0), "1111")
        # The budget before phase 0 is the last one of the round.
        self.assertEqual(steady_word(2, Round(0, 1), 0), "11")
        self.assertEqual(steady_word(2, Round(0, 1), 1), "101")
        self.assertEqual(steady_word(2, Round(0, 1), 2), "11")
        self.assertEqual(steady_word(3, Round(2, 0, 0), 0), depths_word([5, 4, 1]))

    def test_word_for_word(self):
        for limit, row in product(range(1, 8), ROUNDS[1:]):
            for phase in range(2 * len(row) + 1):
                word = steady_word(limit, Round(*row), phase)
                self.assertEqual(depths(word), plain_steady_depths(limit, row, phase))

    def test_the_sizes(self):
        slow = Round(*[0] * 11, 1)
        self.assertEqual(len(steady_word(64, slow, 10 ** 6)), 63 + 62 * 12 + 4 + 1)
        self.assertEqual(steady_word(64, Round(BIG, BIG), 10 ** 6), "1" * 64)
        self.assertEqual(steady_word(3, Round(1, 0, 2), BIG * 3 + 1), steady_word(3, Round(1, 0, 2), 1))

    def test_one_step_leads_to_the_next_steady_word(self):
        for places, limit, row, _ in terms(8):
            budgets = Round(*row)
            for phase in range(len(row)):
                word = steady_word(limit, budgets, phase)
                if word is not None and (len(word) < places or limit == 1):
                    after = newest_step(word, places, limit, budgets, phase)
                    self.assertEqual(after, steady_word(limit, budgets, phase + 1))

    def test_the_newest_play_comes_to_them_and_stays(self):
        for places, limit, row, late in terms(6):
            if late:
                continue
            budgets = Round(*row)
            for word, phase in standings(places, limit, row):
                if safe(word, places, limit, budgets, phase):
                    words = [word, *newest_play(word, places, limit, budgets, phase, most=places + 9)]
                    self.assertEqual(len(words), places + 10)
                    for t in range(places, places + 10):
                        self.assertEqual(words[t], steady_word(limit, budgets, phase + t))

    def test_the_rule_by_steady_words(self):
        for places, limit, row, late in terms(9):
            if not late and limit >= 2 and max(row) > 0:
                lengths = [len(steady_word(limit, Round(*row), phase)) for phase in range(len(row))]
                self.assertIs(ring_goes_on(places, limit, Round(*row)), max(lengths) <= places - 1)


def depths_word(numbers):
    return "".join("1" if depth in numbers else "0" for depth in range(numbers[0], 0, -1))


class TestForever(unittest.TestCase):
    """[40], [41]."""

    def test_by_hand(self):
        self.assertEqual(forever_paper("", 5, 3, Round(1)), (["", "1", "11", "111", "1011"], 4))
        self.assertEqual(forever_paper("1011", 5, 3, Round(1)), (["1011"], 0))
        self.assertEqual(forever_paper("", 1, 1, Round(0, 0)), (["", "1", "1"], 1))
        self.assertIsNone(forever_paper("1100", 5, 3, Round(1)))
        self.assertIsNone(forever_paper("11", 2, 2, Round(1), late=True))

    def test_every_standing(self):
        for places, limit, row, late in terms(5):
            for word, phase in standings(places, limit, row):
                call = (word, places, limit, Round(*row), phase)
                paper = forever_paper(*call, late=late)
                self.assertIs(paper is None, not safe(*call, late=late))
                if paper is None:
                    continue
                words, back = paper
                self.assertIsInstance(paper, tuple)
                self.assertIsInstance(words, list)
                self.assertLessEqual(len(words), 2 * places + 2 * len(row))
                self.assertTrue(forever_holds(paper, *call, late=late))
                play = [word, *newest_play(*call, late=late, most=len(words))]
                self.assertEqual(words, play[:-1])
                met = [(each, (phase + at) % len(row)) for at, each in enumerate(play)]
                self.assertEqual(len(set(met[:-1])), len(words))
                self.assertEqual(met.index(met[-1]), back)

    def test_the_sizes(self):
        for late in [False, True]:
            call = ("1" * 30, 64, 30, Round(5, 0, 0), 10 ** 6)
            paper = forever_paper(*call, late=late)
            self.assertTrue(forever_holds(paper, *call, late=late))
            self.assertLessEqual(len(paper[0]), 2 * 64 + 6)

    def test_papers_are_new(self):
        call = ("", 5, 3, Round(1))
        paper = forever_paper(*call)
        paper[0].clear()
        self.assertEqual(len(forever_paper(*call)[0]), 5)
        words = ["", "1", "11", "111", "1011"]
        forever_holds((words, 4), *call)
        self.assertEqual(words, ["", "1", "11", "111", "1011"])

    def test_bad_papers_do_not_hold(self):
        call = ("", 5, 3, Round(1))
        good = ["", "1", "11", "111", "1011"]
        self.assertTrue(forever_holds((good, 4), *call))
        for paper in [
            ([], 0), ([], -1), (good, 5), (good, -1), (good, HUGE), (good, -HUGE), (good, 3), (good, 0),
            (good[1:], 3 + 1), (good[:-1] + ["01011"], 4), (good[:-1] + ["101"], 4), (good[:-1] + ["1x11"], 4),
            (good[:-1] + ["10 1"], 4), (good[:-1] + ["101111"], 4), (good[:-1] + ["1111"], 4), (["0"] + good, 5),
            (["2"], 0), (["1011", "\u0661"], 0), (["1011", "1011\n"], 0), (["1" + "0" * 200], 0), (["11000"], 0),
        ]:
            self.assertIs(forever_holds(paper, *call), False, paper)
        self.assertIs(forever_holds((good[1:], 3), "1", 5, 3, Round(1)), True)
        self.assertIs(forever_holds((good[1:], 3), "11", 5, 3, Round(1)), False)

    def test_papers_that_are_not_the_play_may_hold(self):
        self.assertTrue(forever_holds((["1011"], 0), "", 5, 3, Round(1)))
        self.assertTrue(forever_holds((["1011", "1011"], 0), "111", 5, 3, Round(1)))
        self.assertTrue(forever_holds((["1011", "1011"], 1), "111", 5, 3, Round(1)))
        # The budgets of the repeated part must be a whole number of rounds.
        self.assertFalse(forever_holds((["1011"], 0), "", 5, 3, Round(1, 1)))
        self.assertTrue(forever_holds((["1011", "1011"], 0), "", 5, 3, Round(1, 1)))
        self.assertFalse(forever_holds((["1011", "1011"], 1), "", 5, 3, Round(1, 1)))
        self.assertTrue(forever_holds((["1011"] * 3, 1), "", 5, 3, Round(1, 1), 7))

    def test_drawn_papers(self):
        held = 0
        for seed in range(4000):
            draw = random.Random(seed)
            places, row, late = draw.randrange(1, 6), draw.choice(ROUNDS), draw.random() < 0.5
            limit = draw.randrange(1, places + 1)
            word, phase = draw.choice(ring_words(places, limit)), draw.randrange(2 * len(row))
            paper = forever_paper("", places, limit, Round(*row), phase, late=late)
            words, back = paper if paper else ([draw.choice(all_words(places))], 0)
            kind = draw.randrange(5)
            if kind == 0 and words:
                words[draw.randrange(len(words))] = draw.choice(all_words(places) + NO_WORDS)
            if kind == 1:
                back += draw.choice([-2, -1, 1, 2])
            if kind == 2:
                words = words + words[back:]
            if kind == 3:
                words = words[draw.randrange(len(words)):]
            expected = plain_forever_holds((words, back), word, places, limit, row, phase, late)
            found = forever_holds((words, back), word, places, limit, Round(*row), phase, late=late)
            self.assertIs(found, expected, seed)
            if found:
                held += 1
                self.assertTrue(safe(word, places, limit, Round(*row), phase, late=late))
        self.assertGreater(held, 100)


class TestStalls(unittest.TestCase):
    """[42]."""

    def test_by_hand(self):
        self.assertIsNone(stall_paper("", 5, 3, Round(1)))
        self.assertEqual(stall_paper("11000", 5, 3, Round(1)), ("blocked", 0))
        self.assertEqual(stall_paper("1100", 5, 3, Round(1)), ("blocked", 1))
        self.assertEqual(stall_paper("111", 5, 4, Round(1)), ("blocked", 2))
        self.assertEqual(stall_paper("", 5, 4, Round(1)), ("short", 5))
        self.assertEqual(stall_paper("", 1, 1, Round(1), late=True), ("short", 0))
        self.assertEqual(stall_paper("1", 1, 1, Round(1), late=True), ("full", 0))
        self.assertEqual(stall_paper("11", 2, 2, Round(1), late=True), ("full", 0))
        self.assertEqual(stall_paper("11", 2, 2, Round(1)), ("blocked", 0))

    def test_every_standing(self):
        kinds = set()
        for places, limit, row, late in terms(5):
            for word, phase in standings(places, limit, row):
                call = (word, places, limit, Round(*row), phase)
                paper = stall_paper(*call, late=late)
                lasting = life(*call, late=late)
                if lasting is None:
                    self.assertIsNone(paper)
                    continue
                kinds.add((paper[0], late))
                self.assertTrue(stall_holds(paper, *call, late=late))
                if late and len(word) == places:
                    self.assertEqual(paper, ("full", 0))
                else:
                    is_blocked = blocked_at(*call, late=late) == lasting - late
                    self.assertEqual(paper, ("blocked" if is_blocked else "short", lasting - late))
                    if not is_blocked:
                        self.assertEqual(short_at(*call, late=late), lasting - late)
        self.assertEqual(kinds, {("blocked", False), ("short", False), ("blocked", True), ("short", True),
                                 ("full", True)})

    def test_which_ones_hold(self):
        """Also those with another t than the smallest one."""
        for places, limit, row, late in terms(4):
            for word, phase in standings(places, limit, row):
                lasting = life(word, places, limit, Round(*row), phase, late=late)
                for kind, t in product(["blocked", "short", "full", "", "Short", "x"], range(-2, 9)):
                    call = (word, places, limit, Round(*row), phase)
                    expected = plain_stall_holds((kind, t), word, places, limit, row, phase, late)
                    self.assertIs(stall_holds((kind, t), *call, late=late), bool(expected), (kind, t, call, late))
                    if expected:
                        self.assertLessEqual(lasting, t + late if kind != "full" else 0)

    def test_t_of_any_size(self):
        for kind, t in product(["blocked", "short", "full", "x"], [-HUGE, -1, 10 ** 800, HUGE]):
            for word, limit, budgets in [("11", 4, Round(0)), ("11", 3, Round(1)), ("1111", 5, Round(2, 0))]:
                for late in [False, True]:
                    found = stall_holds((kind, t), word, 5, limit, budgets, late=late)
                    m = 5 - late
                    row = budgets.budgets
                    before = [row[(t - 1 - back) % len(row)] for back in range(m - limit)]
                    poor = m < limit or sum(before) < limit - 1
                    expected = t > 0 and (kind == "blocked" and budgets == Round(0) or kind == "short" and poor)
                    self.assertIs(found, expected, (kind, word, limit, late))

    def test_the_bounds_of_t(self):
        self.assertTrue(stall_holds(("short", 2), "111", 5, 4, Round(1)))
        self.assertFalse(stall_holds(("short", 1), "111", 5, 4, Round(1)))
        self.assertTrue(stall_holds(("short", 9), "111", 5, 4, Round(1)))
        self.assertFalse(stall_holds(("blocked", -1), "11000", 5, 3, Round(1)))
        self.assertFalse(stall_holds(("short", -1), "11111", 5, 5, Round(1)))
        self.assertTrue(stall_holds(("blocked", 0), "11000", 5, 3, Round(1)))
        self.assertTrue(stall_holds(("full", 0), "101", 3, 2, Round(1), late=True))
        for paper, late in [(("full", 1), True), (("full", -1), True), (("full", 0), False)]:
            self.assertIs(stall_holds(paper, "101", 3, 2, Round(1), late=late), False)
        self.assertIs(stall_holds(("full", 0), "101", 4, 2, Round(1), late=True), False)


class TestRefusals(unittest.TestCase):
    """[5]: the standing is checked, the paper never is."""

    GOOD = {"word": "101", "places": 5, "limit": 3, "budgets": Round(1), "phase": 0}
    BROKEN = {"word": NO_WORDS, "places": ZERO, "limit": ZERO, "budgets": NO_ROUNDS, "phase": MINUS}

    def test_each_limit(self):
        for call, late in product([forever_paper, stall_paper], [False, True]):
            check_every_mix(self, call, self.GOOD, self.BROKEN, {"late": late})

    def test_each_limit_beside_a_full_word(self):
        broken = {"limit": ZERO, "budgets": NO_ROUNDS, "phase": MINUS}
        for call in [forever_paper, stall_paper]:
            check_every_mix(self, call, {**self.GOOD, "places": 3, "limit": 2}, broken, {"late": True})
            self.assertEqual(refused_field(call, "101", 3, 4, Round(1), late=True), "limit")
            self.assertEqual(refused_field(call, "101", 3, 1, Round(1), late=True), "word")

    def test_each_limit_beside_a_paper(self):
        for paper in [(["101"], 0), ([], -5), (["x"], 3)]:
            check_every_mix(self, forever_holds, {"paper": paper, **self.GOOD}, self.BROKEN, {"late": False})
        for paper in [("short", 0), ("x", -5), ("full", 1)]:
            check_every_mix(self, stall_holds, {"paper": paper, **self.GOOD}, self.BROKEN, {"late": True})

    def test_each_limit_of_steady_words(self):
        check_every_mix(self, steady_word, {"limit": 3, "budgets": Round(1), "phase": 0},
                        {"limit": ZERO, "budgets": NO_ROUNDS, "phase": MINUS})
        self.assertEqual(refused_field(steady_word, 3, Round(0), -1), "phase")

    def test_limits_between_arguments_come_after_all_others(self):
        calls = [
            forever_paper, stall_paper, lambda *args: forever_holds(([], 0), *args),
            lambda *args: stall_holds(("full", 0), *args),
        ]
        for call in calls:
            self.assertEqual(refused_field(call, "1000", 3, 3, Round(1)), "word")
            self.assertEqual(refused_field(call, "111", 3, 2, Round(1)), "word")
            self.assertEqual(refused_field(call, "1000", 3, 4, Round(1)), "word")
            self.assertEqual(refused_field(call, "111", 3, 4, Round(1)), "limit")
            self.assertEqual(refused_field(call, "1000", 3, 4, Round(1), -1), "phase")
            self.assertIsNone(refused_field(call, "111", 3, 3, Round(1)))

    def test_ones_of_the_entries_are_limited(self):
        self.assertFalse(forever_holds((["111"], 0), "1", 9, 2, Round(9)))
        self.assertTrue(forever_holds((["11"], 0), "1", 9, 2, Round(9)))
        self.assertEqual(living("111"), 3)


if __name__ == "__main__":
    unittest.main()
