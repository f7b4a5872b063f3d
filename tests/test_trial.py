"""carrylog.trial: promises [82] to [84], and [3] to [5] for them."""

import random
import unittest
from itertools import product

from carrylog.keepers import Greedy, Keeper, Lazy, RuleKeeper, Thrifty
from carrylog.life import life
from carrylog.ring import Ring
from carrylog.rounds import Round
from carrylog.sums import ring_goes_on
from carrylog.trial import run_row, standings, worst_row
from carrylog.words import newest
from tests.games import carried, ring_moves, without
from tests.outcomes import outcome
from tests.refusing import check_every_mix, refused_field

BIG = 10 ** 30
ZERO = [0, -1, -BIG]
NO_ROUNDS = [None, 1, [1], (1, 2)]
ROUNDS = [[0], [1], [2], [64], [0, 1], [2, 0], [3, 0, 1]]
RULES = ["when free <= 1 carry all", "when gap >= 1 carry 1\nwhen living >= 3 carry all\nelse carry 1",
         "when budget >= 2 carry 2\nwhen dead >= 1 carry all\nelse carry 0"]


def keepers(limit):
    return [Keeper(), Greedy(), Lazy(0), Lazy(1), Lazy(2), Thrifty(limit), *[RuleKeeper(text) for text in RULES]]


def terms(most):
    for places, row in product(range(1, most + 1), ROUNDS):
        for limit in range(1, places + 1):
            yield places, limit, row


def plain_put(keeper, word, move, places, row, phase):
    """[82]: the word after the put, or None if it stalls."""
    moment = without(word, move)
    count = keeper.choose(moment, places, Round(*row), phase)
    words = carried(moment, count, places)
    return words[-1] + "1" if len(words[-1]) < places else None


def ascending_moves(word, limit):
    """None first, then the indexes."""
    moves = ring_moves(word, limit)
    return [move for move in moves if move is None] + [move for move in moves if move is not None]


def plain_reached(keeper, places, limit, row):
    """The standings that can be met, and whether some put from one of them stalls."""
    found, todo, stalls = {("", 0)}, [("", 0)], False
    while todo:
        word, phase = todo.pop()
        for move in ring_moves(word, limit):
            after = plain_put(keeper, word, move, places, row, phase)
            if after is None:
                stalls = True
            elif (after, (phase + 1) % len(row)) not in found:
                found.add((after, (phase + 1) % len(row)))
                todo.append((after, (phase + 1) % len(row)))
    return found, stalls


def stalling_rows(keeper, places, limit, row, length):
    """All rows of this length whose last put stalls, in the order of [83]."""
    level = [([], "")]
    for t in range(length):
        level = [
            (moves + [move], plain_put(keeper, word, move, places, row, t % len(row)))
            for moves, word in level if word is not None for move in ascending_moves(word, limit)
        ]
    return [moves for moves, word in level if word is None]


def newest_row(places, limit, budgets, many):
    """The moves of the newest play against the greedy keeper."""
    moves, word = [], ""
    for _ in range(many):
        moves.append(None if word.count("1") < limit else newest(word))
        words = run_row(Greedy(), moves, places, limit, budgets)
        if len(words) < len(moves):
            break
        word = words[-1]
    return moves


class TestRunRow(unittest.TestCase):
    """[82]."""

    def test_by_hand(self):
        self.assertEqual(run_row(Greedy(), [None, None, None, 2], 5, 3, Round(1)), ["1", "11", "111", "1011"])
        self.assertEqual(run_row(Keeper(), [None, None, None, 2], 5, 3, Round(1)), ["1", "11", "111", "1101"])
        words = ["1", "11", "101", "1001", "10001"]
        self.assertEqual(run_row(Keeper(), [None, None, 1, 1, 1, 1], 5, 3, Round(1)), words)
        self.assertEqual(run_row(Greedy(), [], 5, 3, Round(1)), [])

    def test_the_moves_after_the_stall_are_not_looked_at(self):
        for rest in [[], [7], [-1], [None, None], ["x"]]:
            self.assertEqual(run_row(Greedy(), [None, None, 1, *rest], 2, 2, Round(1)), ["1", "11"])
        self.assertEqual(refused_field(run_row, Greedy(), [None, None, 2], 2, 2, Round(1)), "row")

    def test_wrong_moves(self):
        for row in [[0], [-1], [None, 1], [None, -1], [None, None, None], [None, 0, 0, 1], [None, None, 2],
                    [None, None, -2], [None, BIG], [None, -BIG]]:
            self.assertEqual(refused_field(run_row, Greedy(), row, 5, 2, Round(1)), "row")
        self.assertEqual(run_row(Greedy(), [None, None], 5, 2, Round(1)), ["1", "11"])

    def test_a_move_is_judged_before_the_keeper_is_asked(self):
        class Asked(Keeper):
            times = 0

            def choose(self, word, places, budgets, phase):
                self.times += 1
                return 0
        keeper = Asked()
        self.assertEqual(refused_field(run_row, keeper, [None, 3], 5, 2, Round(1)), "row")
        self.assertEqual(keeper.times, 1)

    def test_rows_go_as_on_a_ring(self):
        for seed in range(150):
            draw = random.Random(seed)
            places = draw.randrange(1, 12)
            limit, row = draw.randrange(1, places + 1), draw.choice(ROUNDS)
            keeper = draw.choice(keepers(limit))
            moves, words, ring = [], [], Ring(places, limit, Round(*row))
            for turn in range(30):
                alive = list(ring.table())
                move = draw.choice(ascending_moves(ring.word, limit))
                key = f"k{turn}" if move is None else alive[move]
                moves.append(move)
                count = keeper.choose(without(ring.word, move), places, Round(*row), ring.phase)
                if outcome(ring.put, key, 0, count)[0] != "done":
                    break
                words.append(ring.word)
            copy = list(moves)
            self.assertEqual(run_row(keeper, moves, places, limit, Round(*row)), words)
            self.assertEqual(moves, copy)

    def test_the_sizes(self):
        budgets = Round(3, 0, 0, 1, 2, 0, 5, 0, 0, 0, 1, BIG)
        for keeper in [*keepers(32), Thrifty(10 ** 31), Lazy(10 ** 31)]:
            row = [None] * 32 + [(7 * turn) % 32 for turn in range(32)]
            words = run_row(keeper, row, 64, 32, budgets)
            self.assertGreaterEqual(len(words), 33)
            self.assertEqual(words[31].count("1"), 32)


class TestWorstRow(unittest.TestCase):
    """[83]."""

    def test_by_hand(self):
        self.assertEqual(worst_row(Greedy(), 3, 3, Round(1)), [None, None, None, 1])
        self.assertEqual(worst_row(Keeper(), 3, 2, Round(1)), [None, None, 1, 1])
        self.assertEqual(worst_row(Greedy(), 2, 2, Round(0)), [None, None, 1])
        self.assertIsNone(worst_row(Greedy(), 5, 3, Round(1)))
        self.assertIsNone(worst_row(Keeper(), 1, 1, Round(0)))
        self.assertIsNone(worst_row(Keeper(), 5, 1, Round(0)))

    def test_none_exactly_if_the_keeper_never_stalls(self):
        for places, limit, row in terms(5):
            for keeper in keepers(limit):
                worst = worst_row(keeper, places, limit, Round(*row))
                self.assertIs(worst is not None, plain_reached(keeper, places, limit, row)[1])

    def test_the_first_of_the_shortest(self):
        several = 0
        for places, limit, row in terms(4):
            for keeper in keepers(limit):
                worst = worst_row(keeper, places, limit, Round(*row))
                if worst is None:
                    continue
                with self.subTest(keeper=keeper.label(), places=places, limit=limit, row=row):
                    for length in range(1, len(worst)):
                        self.assertEqual(stalling_rows(keeper, places, limit, row, length), [])
                    rows = stalling_rows(keeper, places, limit, row, len(worst))
                    self.assertEqual(worst, rows[0])
                    several += len(rows) > 1
        self.assertGreater(several, 50)

    def test_its_last_put_stalls(self):
        for places, limit, row in terms(6):
            for keeper in [Greedy(), Lazy(1)]:
                worst = worst_row(keeper, places, limit, Round(*row))
                if worst is not None:
                    self.assertEqual(len(run_row(keeper, worst, places, limit, Round(*row))), len(worst) - 1)

    def test_the_sizes(self):
        self.assertIsNone(worst_row(Greedy(), 7, 4, Round(2, 1, 1)))
        self.assertIsNone(worst_row(Thrifty(4), 7, 4, Round(2, 1, 1)))
        self.assertEqual(len(worst_row(Keeper(), 7, 4, Round(2, 1, BIG))), 8)
        self.assertEqual(len(worst_row(Greedy(), 7, 7, Round(BIG, BIG, BIG))), 8)

    def test_a_mark_that_changes(self):
        lazy = Lazy(0)
        self.assertIsNotNone(worst_row(lazy, 5, 3, Round(1)))
        lazy.mark = 2
        self.assertIsNone(worst_row(lazy, 5, 3, Round(1)))


class TestStandings(unittest.TestCase):
    """[83]."""

    def test_by_hand(self):
        self.assertEqual(standings(Greedy(), 2, 1, Round(0)), [("", 0), ("1", 0)])
        self.assertEqual(standings(Keeper(), 3, 2, Round(1, 0)), [
            ("", 0), ("1", 0), ("1", 1), ("11", 0), ("11", 1), ("101", 0), ("101", 1),
        ])

    def test_against_a_plain_search(self):
        for places, limit, row in terms(5):
            for keeper in keepers(limit):
                found = plain_reached(keeper, places, limit, row)[0]
                expected = sorted(found, key=lambda state: (len(state[0]), state))
                self.assertEqual(standings(keeper, places, limit, Round(*row)), expected)

    def test_the_sizes(self):
        for keeper in keepers(4):
            met = standings(keeper, 7, 4, Round(2, 0, 3))
            self.assertEqual(len(met), len(set(met)))
            self.assertEqual(met[0], ("", 0))


class TestTheLife(unittest.TestCase):
    """[84]: the rule and the life over keepers."""

    def test_no_keeper_does_better_than_the_life(self):
        for places, limit, row in terms(6):
            lasting = life("", places, limit, Round(*row))
            for keeper in keepers(limit):
                worst = worst_row(keeper, places, limit, Round(*row))
                if lasting is not None:
                    self.assertIsNotNone(worst)
                    self.assertLessEqual(len(worst), lasting + 1)

    def test_the_newest_play_stalls_the_greedy_keeper_as_soon(self):
        for places, limit, row in terms(7):
            budgets = Round(*row)
            worst = worst_row(Greedy(), places, limit, budgets)
            moves = newest_row(places, limit, budgets, 20)
            self.assertIs(worst is None, ring_goes_on(places, limit, budgets))
            if worst is None:
                self.assertEqual(len(run_row(Greedy(), moves, places, limit, budgets)), 20)
            else:
                self.assertEqual(len(moves), len(worst))
                self.assertEqual(len(worst), life("", places, limit, budgets) + 1)
                self.assertEqual(len(run_row(Greedy(), moves, places, limit, budgets)), len(worst) - 1)

    def test_a_thrifty_keeper_never_stalls_if_the_rule_holds(self):
        for places, limit, row in terms(6):
            if ring_goes_on(places, limit, Round(*row)):
                self.assertIsNone(worst_row(Thrifty(limit), places, limit, Round(*row)))


class TestRefusals(unittest.TestCase):
    """[5]."""

    def test_each_limit(self):
        broken = {"places": ZERO, "limit": ZERO, "budgets": NO_ROUNDS}
        good = {"keeper": Greedy(), "row": [None], "places": 3, "limit": 3, "budgets": Round(1)}
        check_every_mix(self, run_row, good, broken)
        del good["row"]
        check_every_mix(self, worst_row, good, broken)
        check_every_mix(self, standings, good, broken)

    def test_the_limit_above_the_places(self):
        for call, args in [(run_row, (Greedy(), [5])), (worst_row, (Greedy(),)), (standings, (Greedy(),))]:
            self.assertEqual(refused_field(call, *args, 3, 4, Round(1)), "limit")
            self.assertEqual(refused_field(call, *args, 3, 4, None), "budgets")

    def test_results_are_new(self):
        for call in [worst_row, standings]:
            first = call(Greedy(), 3, 3, Round(1))
            first.clear()
            self.assertNotEqual(call(Greedy(), 3, 3, Round(1)), [])


if __name__ == "__main__":
    unittest.main()
