"""carrylog.games: promises [61] to [65], and [3] to [5] for them."""

import inspect
import random
import unittest
from itertools import product
from math import comb

from carrylog.games import Game, RingGame, SegmentGame
from carrylog.life import life
from carrylog.ring import Ring
from carrylog.rounds import Round
from carrylog.segments import Segments
from carrylog.sums import ring_goes_on, segments_limit
from tests.games import (
    all_words, lives, reachable, ring_lives, ring_put, ring_words, segments_moves, segments_put, segments_replies,
)
from tests.outcomes import outcome
from tests.refusing import check_every_mix, refused_field

BIG = 10 ** 30
MINUS, ZERO = [-1, -BIG], [0, -1, -BIG]
NO_ROUNDS = [None, 1, [1], (1, 2)]
ROUNDS = [[0], [1], [2], [64], [0, 1], [2, 0], [0, 0, 0], [3, 0, 1]]
HOUSES = [(1, 1), (1, 3), (2, 1), (2, 2), (2, 3), (3, 1), (3, 2), (4, 1), (4, 2), (3, 3)]


def ring_terms(most, rows=ROUNDS):
    """(places, limit, row, late) for small rings."""
    for places, row, late in product(range(1, most + 1), rows, [False, True]):
        for limit in range(1, places + 1):
            yield places, limit, row, late


def ring_game(places, limit, row, late):
    return RingGame(places, limit, Round(*row), late=late)


def segment_terms(budgets, houses=HOUSES):
    """(segments, size, limit, budget, late) for small stores, with limits around the rule."""
    for (segments, size), budget, late in product(houses, budgets, [False, True]):
        most = segments_limit(segments, size, budget, late=late)
        for limit in [most - 1, most, most + 1, most + 2]:
            if limit >= 1:
                yield segments, size, limit, budget, late


def segment_game(segments, size, limit, budget, late):
    return SegmentGame(segments, size, limit, budget, late=late)


def plain_move(move):
    """A move of a SegmentGame in the words of tests.games."""
    return move[1] if move[0] == "closed" else move[0]


def plain_replies_of(segments, size, limit, budget, late):
    return lambda state: segments_replies(state, limit, budget, size, segments, late)


class TestRingGame(unittest.TestCase):
    """[61] to [64] for rings."""

    def test_a_small_one(self):
        game = RingGame(2, 1, Round(1, 0))
        self.assertEqual(game.opening(), ("", 0))
        self.assertEqual(game.states(), [("", 0), ("", 1), ("1", 0), ("1", 1), ("10", 0), ("10", 1)])
        self.assertEqual(game.count_states(), 6)
        self.assertEqual(game.moves(("", 1)), [None])
        self.assertEqual(game.moves(("10", 0)), [0])
        self.assertEqual(game.replies(("10", 0), 0), [("1", 1)])
        self.assertEqual(game.replies(("10", 1), 0), [("1", 0)])
        self.assertEqual(list(game.successors(("1", 1))), [(0, [("1", 0)])])
        self.assertEqual(game.lives(), {state: None for state in game.states()})

    def test_states(self):
        for places, limit, row, late in ring_terms(7, [[1], [0, 2, 1]]):
            game = ring_game(places, limit, row, late)
            words = [word for word in all_words(places) if word.count("1") <= limit]
            self.assertEqual(game.states(), [(word, phase) for word in words for phase in range(len(row))])
            many = sum(comb(places, count) for count in range(limit + 1)) * len(row)
            self.assertEqual(game.count_states(), many)
            self.assertEqual(game.opening(), ("", 0))
            self.assertEqual(list(game.lives()), game.states())

    def test_moves_and_replies(self):
        for places, limit, row, late in ring_terms(5):
            game = ring_game(places, limit, row, late)
            for word, phase in game.states():
                ones = word.count("1")
                moves = ([None] if ones < limit else []) + list(range(ones))
                self.assertEqual(game.moves((word, phase)), moves)
                rows = []
                for move in moves:
                    words = set(ring_put(word, move, places, row[phase], late))
                    rows.append((move, sorted((each, (phase + 1) % len(row)) for each in words)))
                    self.assertEqual(game.replies((word, phase), move), rows[-1][1])
                self.assertEqual(list(game.successors((word, phase))), rows)

    def test_replies_ascend_by_the_string(self):
        self.assertEqual(RingGame(6, 3, Round(2)).replies(("1100", 0), None), [("10011", 0), ("11001", 0), ("111", 0)])
        self.assertEqual(RingGame(5, 3, Round(9), late=True).replies(("110", 0), None),
                         [("1011", 0), ("1101", 0), ("111", 0)])

    def test_the_carries_are_at_most_the_others(self):
        # The record of the put is no other, so nothing is carried twice.
        self.assertEqual(RingGame(5, 3, Round(64)).replies(("11", 0), 1), [("101", 0), ("11", 0)])
        self.assertEqual(RingGame(5, 3, Round(64), late=True).replies(("11", 0), 1), [("101", 0), ("11", 0)])
        self.assertEqual(RingGame(5, 1, Round(64), late=True).replies(("1", 0), 0), [("1", 0)])

    def test_a_state_without_a_reply(self):
        self.assertEqual(RingGame(3, 3, Round(9)).replies(("111", 0), 1), [])
        self.assertEqual(RingGame(3, 3, Round(9)).replies(("111", 0), 0), [("111", 0)])
        self.assertEqual(RingGame(3, 3, Round(9), late=True).replies(("111", 0), 0), [])
        self.assertEqual(RingGame(3, 3, Round(9)).lives()["111", 0], 0)
        self.assertEqual(RingGame(1, 1, Round(9), late=True).lives(), {("", 0): 1, ("1", 0): 0})

    def test_one_place(self):
        self.assertEqual(RingGame(1, 1, Round(0)).lives(), {("", 0): None, ("1", 0): None})
        self.assertEqual(RingGame(1, 1, Round(0, 5)).replies(("1", 1), 0), [("1", 0)])

    def test_lives_against_a_plain_search(self):
        for terms in ring_terms(5):
            with self.subTest(terms=terms):
                self.assertEqual(ring_game(*terms).lives(), ring_lives(*terms))

    def test_lives_equal_the_formula(self):
        """[65]"""
        for places, limit, row, late in ring_terms(7, [[1], [0, 3], [2, 0, 64], [0]]):
            with self.subTest(places=places, limit=limit, row=row, late=late):
                found = ring_game(places, limit, row, late).lives()
                for word, phase in found:
                    self.assertEqual(found[word, phase], life(word, places, limit, Round(*row), phase, late=late))

    def test_the_opening_goes_on_by_the_rule(self):
        for places, limit, row, late in ring_terms(6):
            game = ring_game(places, limit, row, late)
            goes_on = ring_goes_on(places, limit, Round(*row), late=late)
            self.assertIs(game.lives()[game.opening()] is None, goes_on)

    def test_the_sizes(self):
        for limit, late in product([1, 4, 7], [False, True]):
            found = RingGame(7, limit, Round(64, 0, 64), late=late).lives()
            for word, phase in found:
                lasting = life(word, 7, limit, Round(64, 0, 64), phase, late=late)
                self.assertEqual(found[word, phase], lasting)
        self.assertEqual(len(RingGame(7, 7, Round(1, 2, 3)).states()), 384)


class TestSegmentGame(unittest.TestCase):
    """[61] to [64] for segments."""

    def test_a_small_one(self):
        game = SegmentGame(2, 2, 3, 1)
        self.assertEqual(game.opening(), (0, 0, ()))
        # A head with one dead and one living record is none: the release would have freed it.
        self.assertEqual(game.states(), [(0, 0, ()), (1, 1, ()), (1, 1, (1,)), (1, 1, (2,)), (2, 2, ()), (2, 2, (1,))])
        self.assertEqual(game.count_states(), 6)
        self.assertEqual(game.moves((1, 1, (2,))), [("head",), ("closed", 2)])
        self.assertEqual(game.moves((2, 2, ())), [("new",), ("head",)])
        self.assertEqual(game.replies((1, 1, (2,)), ("closed", 2)), [(1, 1, (2,)), (2, 2, (1,))])
        self.assertEqual(game.replies((1, 1, (2,)), ("head",)), [(1, 1, (2,)), (2, 2, (1,))])
        self.assertIsNone(game.lives()[0, 0, ()])

    def test_states_against_a_plain_search(self):
        for segments, size, limit, budget, late in segment_terms(range(4)):
            with self.subTest(segments=segments, size=size, limit=limit, budget=budget, late=late):
                game = segment_game(segments, size, limit, budget, late)
                found = reachable((0, 0, ()), plain_replies_of(segments, size, limit, budget, late))
                self.assertEqual(game.states(), sorted(found))
                self.assertEqual((game.count_states(), game.opening()), (len(found), (0, 0, ())))

    def test_moves_and_replies(self):
        for segments, size, limit, budget, late in segment_terms(range(4)):
            game = segment_game(segments, size, limit, budget, late)
            for state in game.states():
                moves = game.moves(state)
                self.assertEqual([plain_move(move) for move in moves], segments_moves(state, limit))
                rows = []
                for move in moves:
                    after = segments_put(state, plain_move(move), budget, size, segments, late)
                    rows.append((move, sorted(set(after))))
                    self.assertEqual(game.replies(state, move), rows[-1][1])
                self.assertEqual(list(game.successors(state)), rows)

    def test_the_order_and_form_of_moves(self):
        game = SegmentGame(4, 3, 12, 1)
        self.assertIn((3, 2, (1, 3, 3)), game.states())
        self.assertEqual(game.moves((3, 2, (1, 3, 3))), [("new",), ("head",), ("closed", 1), ("closed", 3)])
        self.assertEqual(game.moves((1, 1, (2, 2))), [("new",), ("head",), ("closed", 2)])
        self.assertEqual(SegmentGame(4, 3, 9, 1).moves((3, 2, (1, 3, 3))), [("head",), ("closed", 1), ("closed", 3)])
        self.assertEqual(game.moves((0, 0, ())), [("new",)])

    def test_lives_against_a_plain_search(self):
        for terms in segment_terms(range(3), [(1, 1), (1, 3), (2, 2), (2, 3), (3, 1), (3, 2), (4, 1)]):
            with self.subTest(terms=terms):
                game = segment_game(*terms)
                self.assertEqual(game.lives(), lives(game.states(), plain_replies_of(*terms)))
                self.assertEqual(list(game.lives()), game.states())

    def test_the_opening_goes_on_by_the_rule(self):
        """[65]"""
        for segments, size, limit, budget, late in segment_terms(range(6)):
            with self.subTest(segments=segments, size=size, limit=limit, budget=budget, late=late):
                game = segment_game(segments, size, limit, budget, late)
                goes_on = limit <= segments_limit(segments, size, budget, late=late)
                found = game.lives()
                self.assertIs(found[game.opening()] is None, goes_on)
                if not goes_on:
                    self.assertNotIn(None, found.values())

    def test_the_edges(self):
        self.assertEqual(SegmentGame(1, 1, 1, 0).states(), [(0, 0, ()), (1, 1, ())])
        self.assertEqual(SegmentGame(1, 1, 1, 0).lives(), {(0, 0, ()): None, (1, 1, ()): None})
        late = SegmentGame(1, 1, 1, 0, late=True)
        self.assertEqual(late.lives(), {(0, 0, ()): 1, (1, 1, ()): 0})
        self.assertEqual(late.replies((1, 1, ()), ("head",)), [])
        self.assertEqual(SegmentGame(1, 2, 70, 5).lives(), {(0, 0, ()): 2, (1, 1, ()): 1, (2, 2, ()): 0})
        # A full head closes with the write; its record is then released in a closed segment.
        self.assertEqual(SegmentGame(2, 2, 3, 0, late=True).replies((2, 2, ()), ("head",)), [(1, 1, (1,))])
        self.assertEqual(SegmentGame(2, 2, 3, 0, late=True).replies((2, 1, ()), ("head",)), [(1, 1, ())])
        self.assertEqual(SegmentGame(2, 2, 3, 0).replies((2, 2, ()), ("head",)), [(1, 1, (1,))])
        self.assertEqual(SegmentGame(2, 2, 3, 0).replies((1, 1, (2,)), ("head",)), [(1, 1, (2,))])

    def test_a_choice_may_carry_the_new_record(self):
        # Late: the write fills the head, the first copy closes it, the next ones carry out of it.
        self.assertEqual(SegmentGame(3, 1, 3, 2, late=True).replies((1, 1, ()), ("new",)), [(1, 1, (1,))])
        self.assertIn((2, 2, (1, 2)), SegmentGame(3, 3, 9, 2, late=True).replies((2, 2, (2,)), ("new",)))

    def test_the_sizes(self):
        for segments, size, limit, budget in [(3, 4, 9, 5), (4, 3, 10, 3), (2, 6, 8, 5), (6, 2, 7, 1), (12, 1, 12, 5)]:
            for late in [False, True]:
                game = SegmentGame(segments, size, limit, budget, late=late)
                self.assertLessEqual(game.count_states(), 600)
                goes_on = limit <= segments_limit(segments, size, budget, late=late)
                self.assertIs(game.lives()[game.opening()] is None, goes_on)


class TestStoresPlayTheGames(unittest.TestCase):
    """[61] to [63]: a state and its replies are what the real stores come to."""

    def test_rings(self):
        for seed in range(60):
            draw = random.Random(seed)
            places = draw.randrange(1, 7)
            limit, row, late = draw.randrange(1, places + 1), draw.choice(ROUNDS), draw.random() < 0.5
            ring, game = Ring(places, limit, Round(*row), late=late), ring_game(places, limit, row, late)
            for _ in range(15):
                state = (ring.word, ring.phase)
                alive = list(ring.table())
                self.assertIn(state, game.states())
                for move in game.moves(state):
                    key = "new" if move is None else alive[move]
                    found = set()
                    for count in range(8):
                        trial = ring.twin()
                        if outcome(trial.put, key, 0, count)[0] == "done":
                            found.add((trial.word, trial.phase))
                    self.assertEqual(game.replies(state, move), sorted(found))
                outcome(ring.put, draw.choice("abcdefg"), 0, draw.choice([None, 0, 1]))

    def test_segments(self):
        for seed in range(60):
            draw = random.Random(seed)
            segments, size = draw.choice([(1, 3), (2, 2), (2, 3), (3, 2), (4, 2), (3, 3)])
            limit, budget, late = draw.randrange(1, segments * size + 1), draw.randrange(4), draw.random() < 0.5
            store, game = Segments(segments, size, limit, budget, late=late), SegmentGame(
                segments, size, limit, budget, late=late)
            for _ in range(12):
                self.check_replies(store, game)
                key, count = draw.choice("abcdefgh"), draw.randrange(budget + 1)
                outcome(store.put, key, 0, *[draw.randrange(segments) for _ in range(count)])

    def check_replies(self, store, game):
        state = store.summary()
        self.assertIn(state, game.states())
        for move in game.moves(state):
            self.assertEqual(game.replies(state, move), sorted(self.after(store, self.key_of(store, move))))

    def key_of(self, store, move):
        if move == ("new",):
            return "new"
        if move == ("head",):
            return [key for key in store.picture()[store.head] if key][0]
        rows = [store.picture()[number] for number in store.closed() if store.living(number) == move[1]]
        return [key for key in rows[0] if key][-1]

    def after(self, store, key):
        """The summaries that any choices for a put of the key lead to."""
        found = set()
        for many in range(store.budget + 1):
            for choices in product(range(store.segments), repeat=many):
                trial = store.twin()
                if outcome(trial.put, key, 0, *choices)[0] == "done":
                    found.add(trial.summary())
        return found


class TestBase(unittest.TestCase):
    """[61], [64], [4]."""

    def test_the_base_class(self):
        for name in ["successors", "lives", "count_states"]:
            self.assertIn(name, vars(Game))
        for each in [RingGame, SegmentGame]:
            self.assertTrue(issubclass(each, Game))
            for name in ["states", "opening", "moves", "replies"]:
                self.assertIn(name, vars(each))
        self.assertTrue(inspect.isgeneratorfunction(Game.successors))

    def test_results_are_new(self):
        for game in [RingGame(3, 2, Round(1)), SegmentGame(2, 2, 3, 1)]:
            state = game.states()[3]
            before = (game.states(), game.moves(state), list(game.successors(state)), game.lives())
            game.states().clear()
            game.moves(state).clear()
            for _, replies in game.successors(state):
                replies.clear()
            game.replies(state, game.moves(state)[0]).append(1)
            game.lives().clear()
            self.assertEqual((game.states(), game.moves(state), list(game.successors(state)), game.lives()), before)


class TestRefusals(unittest.TestCase):
    """[5]."""

    def test_of_the_ring_game(self):
        broken = {"places": ZERO, "limit": ZERO, "budgets": NO_ROUNDS}
        for late in [False, True]:
            check_every_mix(self, RingGame, {"places": 3, "limit": 3, "budgets": Round(1)}, broken, {"late": late})
            self.assertEqual(refused_field(RingGame, 3, 4, Round(1), late=late), "limit")
            self.assertEqual(refused_field(RingGame, 3, 4, None, late=late), "budgets")
            self.assertEqual(refused_field(RingGame, 0, 4, Round(1), late=late), "places")

    def test_of_the_segment_game(self):
        good = {"segments": 2, "size": 2, "limit": 70, "budget": 0}
        broken = {"segments": ZERO, "size": ZERO, "limit": ZERO, "budget": MINUS}
        for late in [False, True]:
            check_every_mix(self, SegmentGame, good, broken, {"late": late})

    def test_a_ring_word_beyond_the_size_is_no_error(self):
        self.assertEqual(len(RingGame(8, 1, Round(1)).states()), 9)
        self.assertEqual(ring_words(8, 1), [word for word, _ in RingGame(8, 1, Round(1)).states()])


if __name__ == "__main__":
    unittest.main()
