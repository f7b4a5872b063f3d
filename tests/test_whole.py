"""What the document promises over several modules, held against all of them together."""

import random
import unittest
from itertools import product

from carrylog.desk import Desk
from carrylog.disk import Disk
from carrylog.duel import Fewest, Opponent, run_duel, stall_bound
from carrylog.games import RingGame, SegmentGame
from carrylog.keepers import Greedy, Lazy, Thrifty
from carrylog.life import life, safe
from carrylog.lots import closed_lot, stall_table
from carrylog.papers import forever_paper, stall_paper
from carrylog.ring import Ring
from carrylog.rounds import Round
from carrylog.segments import Segments
from carrylog.sums import least_free, least_places, ring_goes_on, segments_limit
from carrylog.trial import standings, worst_row
from carrylog.words import best_word, living
from tests.outcomes import outcome

ROUNDS = [[0], [1], [2], [4], [0, 1], [2, 0], [1, 0, 3]]
HOUSES = [(1, 2), (2, 2), (2, 3), (3, 1), (3, 2), (4, 2)]


def terms(most):
    for places, row in product(range(1, most + 1), ROUNDS):
        for limit in range(1, places + 1):
            yield places, limit, Round(*row)


def newest_key(store):
    """The key of the newest play on a ring or a disk."""
    if len(store) < store.limit:
        return [f"k{number}" for number in range(store.limit + 1) if f"k{number}" not in store][0]
    return list(store.table())[-1]


def newest_puts(store, most):
    """How many puts of the newest play a greedy store completes."""
    for done in range(most):
        if outcome(store.put, newest_key(store), 0)[0] == "Stalled":
            return done
    return most


class TestTheRuleOfTheRing(unittest.TestCase):
    """[11], [36], [77], [80], [84]: over rings, disks, games, keepers and desks."""

    def test_one_rule_for_all(self):
        for places, limit, budgets in terms(6):
            goes_on = ring_goes_on(places, limit, budgets)
            with self.subTest(places=places, limit=limit, row=budgets.budgets):
                game = RingGame(places, limit, budgets)
                self.assertIs(game.lives()[game.opening()] is None, goes_on)
                self.assertIs(closed_lot(game) != [], goes_on)
                self.assertIs(worst_row(Greedy(), places, limit, budgets) is None, goes_on)
                self.assertIs(worst_row(Thrifty(limit), places, limit, budgets) is None, goes_on)
                self.assertIs(forever_paper("", places, limit, budgets) is not None, goes_on)
                self.assertIs(stall_paper("", places, limit, budgets) is None, goes_on)
                self.assertIs(outcome(Desk, places, limit, budgets)[0] == "done", goes_on)
                self.assertIs(newest_puts(Ring(places, limit, budgets), 40) == 40, goes_on)
                late = ring_goes_on(places, limit, budgets, late=True)
                game = RingGame(places, limit, budgets, late=True)
                self.assertIs(game.lives()[game.opening()] is None, late)
                self.assertIs(newest_puts(Disk(places, limit, budgets), 40) == 40, late)
                self.assertIs(newest_puts(Ring(places, limit, budgets, late=True), 40) == 40, late)

    def test_how_soon_they_stall(self):
        for places, limit, budgets in terms(6):
            if not ring_goes_on(places, limit, budgets):
                lasting = newest_puts(Ring(places, limit, budgets), 40)
                self.assertEqual(lasting, life("", places, limit, budgets))
                self.assertEqual(len(worst_row(Greedy(), places, limit, budgets)), lasting + 1)
                self.assertLessEqual(lasting, places + len(budgets) - 1)
            if not ring_goes_on(places, limit, budgets, late=True):
                lasting = newest_puts(Disk(places, limit, budgets), 40)
                self.assertEqual(lasting, life("", places, limit, budgets, late=True))
                self.assertLessEqual(lasting, max(1, places + len(budgets) - 1))

    def test_a_lazy_keeper_needs_exactly_least_free(self):
        for places, limit, budgets in terms(6):
            if ring_goes_on(places, limit, budgets):
                enough = least_free(limit, budgets)
                self.assertIsNone(worst_row(Lazy(enough), places, limit, budgets))
                if enough > 0:
                    self.assertIsNotNone(worst_row(Lazy(enough - 1), places, limit, budgets))

    def test_any_store_at_the_least_places_goes_on(self):
        for seed in range(60):
            draw = random.Random(seed)
            limit, row = draw.randrange(1, 12), draw.choice(ROUNDS[1:])
            places = least_places(limit, Round(*row))
            stores = [Ring(places, limit, Round(*row)), Ring(places + 1, limit, Round(*row), late=True),
                      Disk(places + 1, limit, Round(*row)), Desk(places, limit, Round(*row))]
            for _ in range(60):
                alive = list(stores[0].table())
                key = draw.choice(alive) if draw.random() < 0.4 and alive else newest_key(stores[0])
                name = "delete" if key in stores[0] and draw.random() < 0.2 else "put"
                for store in stores:
                    args = (key,) if name == "delete" else (key, 1)
                    self.assertEqual(outcome(getattr(store, name), *args)[0], "done")
                self.assertEqual(len({tuple(sorted(store.table())) for store in stores}), 1)


class TestWritingFirstCostsOnePlace(unittest.TestCase):
    """[10], [20]."""

    def test_the_rule_and_the_games(self):
        for places, limit, budgets in terms(5):
            early = RingGame(places, limit, budgets).lives()
            late = RingGame(places + 1, limit, budgets, late=True).lives()
            goes_on = ring_goes_on(places, limit, budgets)
            self.assertIs(ring_goes_on(places + 1, limit, budgets, late=True), goes_on)
            for word, phase in early:
                lasting = early[word, phase]
                # The late put that stalls has still written into the place more.
                self.assertEqual(late[word, phase], None if lasting is None else lasting + 1)

    def test_a_ring_beside_a_disk_and_a_late_ring(self):
        """The same places in the word are put; the keys there may differ, since copies follow a late record."""
        played = 0
        for seed in range(80):
            draw = random.Random(seed)
            places, row = draw.randrange(1, 10), draw.choice(ROUNDS)
            limit = draw.randrange(1, places + 1)
            ring, late = Ring(places, limit, Round(*row)), Ring(places + 1, limit, Round(*row), late=True)
            disk = Disk(places + 1, limit, Round(*row))
            for turn in range(40):
                index = draw.randrange(limit + 1)
                count = draw.choice([None, None, 0, 1])
                keys = [([*store.table()] + [f"k{turn}"] * (limit + 1))[index] for store in [ring, late, disk]]
                came = outcome(ring.put, keys[0], 1, count)
                if came[0] != "done":
                    continue
                played += 1
                self.assertEqual(outcome(late.put, keys[1], 1, count), came)
                self.assertEqual(outcome(disk.put, keys[2], 1, count), came)
                self.assertEqual((late.word, disk.word), (ring.word, ring.word))
                self.assertEqual((late.free, disk.free, late.last_wait), (ring.free + 1, ring.free + 1, ring.last_wait))
        self.assertGreater(played, 500)


class TestTheRuleOfSegments(unittest.TestCase):
    """[13], [55], [60], [65]: over stores and games."""

    def test_games_and_duels(self):
        for (segments, size), budget, late in product(HOUSES, range(3), [False, True]):
            most = segments_limit(segments, size, budget, late=late)
            for limit in [most, most + 1]:
                if limit < 1:
                    continue
                with self.subTest(segments=segments, size=size, budget=budget, late=late, limit=limit):
                    game = SegmentGame(segments, size, limit, budget, late=late)
                    store = Segments(segments, size, limit, budget, late=late)
                    self.assertIs(game.lives()[game.opening()] is None, limit <= most)
                    rows, stalled = run_duel(store, Fewest(), Opponent(limit), 300)
                    self.assertIs(stalled, limit > most)
                    if stalled:
                        self.assertLessEqual(len(rows), stall_bound(segments, size, limit, 0))
                        self.assertEqual(len(stall_table(game)), len(game.states()))

    def test_a_store_stays_within_the_closed_lot(self):
        """Fewest keeps the store among the states that last forever."""
        for (segments, size), budget, late in product(HOUSES, range(3), [False, True]):
            limit = segments_limit(segments, size, budget, late=late)
            if limit < 1:
                continue
            lot = closed_lot(SegmentGame(segments, size, limit, budget, late=late))
            store, keeper, draw = Segments(segments, size, limit, budget, late=late), Fewest(), random.Random(segments)
            for _ in range(60):
                alive = list(store.table())
                key = draw.choice(alive) if len(alive) == limit else f"k{draw.randrange(limit)}"
                store.put(key, 0, *keeper.choices(store, key))
                self.assertIn(store.summary(), lot)


class TestStandingsAreStates(unittest.TestCase):
    """[61], [83], [43]: standings of keepers, states of games and certificates tell of the same."""

    def test_standings(self):
        for places, limit, budgets in terms(5):
            game = RingGame(places, limit, budgets)
            states, lives = game.states(), game.lives()
            for keeper in [Greedy(), Lazy(1), Thrifty(limit)]:
                met = standings(keeper, places, limit, budgets)
                self.assertEqual(met, [state for state in states if state in met])
            for word, phase in standings(Thrifty(limit), places, limit, budgets):
                if ring_goes_on(places, limit, budgets):
                    self.assertIsNone(lives[word, phase])

    def test_the_closed_lot_is_what_is_safe(self):
        for (places, limit, budgets), late in product(terms(5), [False, True]):
            game = RingGame(places, limit, budgets, late=late)
            lot = [(word, phase) for word, phase in game.states()
                   if safe(word, places, limit, budgets, phase, late=late)]
            self.assertEqual(closed_lot(game), lot)
            for (word, phase), lasting, _ in stall_table(game):
                self.assertEqual(lasting, life(word, places, limit, budgets, phase, late=late))
                if word == best_word(living(word)) and not late:
                    self.assertGreaterEqual(lasting, places - living(word))


class TestTheDeskGoesOn(unittest.TestCase):
    """[90]: in every sequence of deeds, whatever is changed, undone and tried between."""

    def test_drawn_deeds(self):
        for seed in range(60):
            draw = random.Random(seed)
            limit, row = draw.randrange(1, 9), draw.choice(ROUNDS[1:])
            desk = Desk(least_places(limit, Round(*row)) + draw.randrange(3), limit, Round(*row))
            for _ in range(80):
                kind = draw.random()
                if kind < 0.7:
                    alive = list(desk.table())
                    key = draw.choice(alive) if alive and draw.random() < 0.3 else newest_key(desk)
                    name = "delete" if key in desk and draw.random() < 0.2 else "put"
                    came = outcome(getattr(desk, name), *((key,) if name == "delete" else (key, 1)))
                    self.assertEqual(came[0], "done")
                elif kind < 0.85:
                    came = outcome(desk.change, places=draw.choice([None, desk.places - desk.spare, desk.places - 1]),
                                   limit=draw.choice([None, 1, 3, 5]),
                                   budgets=draw.choice([None, Round(*draw.choice(ROUNDS))]))
                    self.assertIn(came[0], ["done", "NotSafe", "InvalidInput"])
                elif kind < 0.95:
                    outcome(draw.choice([desk.undo, desk.redo]))
                else:
                    desk.attempt(("put", "a", 1), ("undo",), ("undo",), ("delete", "k0"))
                self.assertTrue(safe(desk.word, desk.places, desk.limit, desk.budgets, desk.phase))


if __name__ == "__main__":
    unittest.main()
