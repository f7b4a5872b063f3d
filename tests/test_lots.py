"""carrylog.lots: promises [66] and [67]."""

import random
import unittest
from itertools import combinations, product

from carrylog.games import RingGame, SegmentGame
from carrylog.lots import closed_lot, lot_holds, stall_table, table_holds
from carrylog.rounds import Round
from tests.games import lives

GAMES = [
    RingGame(1, 1, Round(0)), RingGame(1, 1, Round(3), late=True), RingGame(3, 2, Round(1)), RingGame(3, 3, Round(1)),
    RingGame(4, 2, Round(1)), RingGame(4, 3, Round(2, 0)), RingGame(4, 2, Round(0)), RingGame(5, 3, Round(1)),
    RingGame(5, 3, Round(1), late=True), RingGame(5, 2, Round(0, 0, 2), late=True), RingGame(6, 3, Round(1), late=True),
    SegmentGame(1, 1, 1, 0), SegmentGame(1, 2, 2, 1), SegmentGame(2, 2, 3, 1), SegmentGame(2, 2, 4, 1),
    SegmentGame(3, 2, 4, 1), SegmentGame(3, 2, 5, 1, late=True), SegmentGame(2, 2, 2, 0, late=True),
]


def plain_lives(game):
    return lives(game.states(), lambda state: [game.replies(state, move) for move in game.moves(state)])


def plain_lot_holds(game, lot):
    """[66], word for word."""
    for state in lot:
        for move in game.moves(state):
            if not [reply for reply in game.replies(state, move) if reply in lot]:
                return False
    return True


def plain_table_holds(game, table):
    """[67], word for word."""
    for state, life, move in table:
        if life < 0 or move not in game.moves(state):
            return False
        for reply in game.replies(state, move):
            if not any(reply == other and shorter < life for other, shorter, _ in table):
                return False
    return True


class TestLots(unittest.TestCase):
    """[66]."""

    def test_a_small_ring(self):
        game = RingGame(2, 1, Round(0))
        self.assertEqual(closed_lot(game), [("", 0), ("1", 0), ("10", 0)])
        self.assertTrue(lot_holds(game, [("1", 0)]))
        self.assertTrue(lot_holds(game, [("10", 0), ("1", 0)]))
        self.assertFalse(lot_holds(game, [("10", 0)]))
        self.assertFalse(lot_holds(game, [("", 0)]))
        self.assertTrue(lot_holds(game, [("", 0), ("1", 0)]))

    def test_the_empty_lot_holds(self):
        for game in GAMES:
            self.assertIs(lot_holds(game, []), True)

    def test_closed_lots(self):
        for game in GAMES:
            found = plain_lives(game)
            lot = closed_lot(game)
            self.assertEqual(lot, [state for state in game.states() if found[state] is None])
            self.assertIs(lot_holds(game, lot), True)

    def test_order_and_repetition_do_not_matter(self):
        for game in GAMES:
            lot = closed_lot(game)
            self.assertTrue(lot_holds(game, list(reversed(lot)) + lot))
            lost = [state for state in game.states() if state not in lot]
            for state in lost[:4]:
                self.assertIs(lot_holds(game, [state, state] + lot), False)
                self.assertIs(lot_holds(game, lot + [state]), False)

    def test_every_lot_of_small_games(self):
        for game in [RingGame(2, 1, Round(1, 0)), RingGame(3, 2, Round(1)), RingGame(3, 1, Round(0), late=True),
                     SegmentGame(2, 2, 3, 1), SegmentGame(2, 2, 2, 0, late=True)]:
            states, closed = game.states(), closed_lot(game)
            self.assertLessEqual(len(states), 12)
            for many in range(len(states) + 1):
                for lot in combinations(states, many):
                    holds = lot_holds(game, list(lot))
                    self.assertIs(holds, plain_lot_holds(game, lot))
                    if holds:
                        self.assertLessEqual(set(lot), set(closed))

    def test_drawn_lots(self):
        held = 0
        for seed, game in product(range(25), GAMES):
            draw = random.Random(seed)
            states, closed = game.states(), closed_lot(game)
            lot = [state for state in closed if draw.random() < 0.93] + draw.sample(states, seed // 20)
            draw.shuffle(lot)
            holds = lot_holds(game, lot)
            self.assertIs(holds, plain_lot_holds(game, lot))
            if holds:
                held += 1
                self.assertLessEqual(set(lot), set(closed))
        self.assertGreater(held, 50)


class TestTables(unittest.TestCase):
    """[67]."""

    def test_a_small_ring(self):
        game = RingGame(2, 2, Round(9))
        self.assertEqual(stall_table(game), [
            (("", 0), 2, None), (("1", 0), 1, None), (("10", 0), 0, None), (("11", 0), 0, 1),
        ])

    def test_stall_tables(self):
        for game in GAMES:
            found = plain_lives(game)
            table = stall_table(game)
            expected = []
            for state in game.states():
                if found[state] is None:
                    continue
                fatal = [
                    move for move in game.moves(state)
                    if not [reply for reply in game.replies(state, move)
                            if found[reply] is None or found[reply] >= found[state]]
                ]
                expected.append((state, found[state], fatal[0]))
            self.assertEqual(table, expected)
            self.assertIs(table_holds(game, table), True)

    def test_lots_and_tables_hold_every_state_once(self):
        for game in GAMES:
            both = closed_lot(game) + [state for state, _, _ in stall_table(game)]
            self.assertEqual(sorted(both), sorted(game.states()))

    def test_the_empty_table_holds(self):
        for game in GAMES:
            self.assertIs(table_holds(game, []), True)

    def test_order_does_not_matter(self):
        for seed, game in product(range(5), GAMES):
            table = stall_table(game)
            random.Random(seed).shuffle(table)
            self.assertIs(table_holds(game, table), True)

    def test_a_state_twice(self):
        game = RingGame(2, 2, Round(9))
        table = stall_table(game)
        self.assertTrue(table_holds(game, table + table))
        # Both entries must hold, and one with a smaller life is enough for the others.
        self.assertTrue(table_holds(game, table + [(("11", 0), 7, 1)]))
        self.assertFalse(table_holds(game, table + [(("", 0), 1, None)]))
        self.assertFalse(table_holds(game, table + [(("11", 0), 0, 0)]))
        self.assertTrue(table_holds(game, [(("11", 0), 7, 1)] + table))

    def test_broken_tables(self):
        game = RingGame(2, 2, Round(9))
        table = stall_table(game)
        for at, entry in [
            (3, (("11", 0), -1, 1)), (3, (("11", 0), 0, None)), (3, (("11", 0), 0, 2)), (3, (("11", 0), 0, -1)),
            (3, (("11", 0), 0, 0)), (3, (("11", 0), 1, 1)), (1, (("1", 0), 0, None)), (1, (("1", 0), 1, 0)),
            (0, (("", 0), 1, None)), (0, (("", 0), 2, 0)),
        ]:
            with self.subTest(entry=entry):
                changed = table[:at] + [entry] + table[at + 1:]
                self.assertIs(table_holds(game, changed), False)
        self.assertFalse(table_holds(game, table[:3]))
        self.assertTrue(table_holds(game, table[1:]))
        self.assertTrue(table_holds(game, [(("", 0), 10 ** 40, None)] + table[1:]))

    def test_broken_tables_of_segments(self):
        game = SegmentGame(1, 2, 2, 1)
        table = stall_table(game)
        self.assertEqual(table, [((0, 0, ()), 2, ("new",)), ((1, 1, ()), 1, ("new",)), ((2, 2, ()), 0, ("head",))])
        self.assertTrue(table_holds(game, table))
        for move in [("new",), ("closed", 1), ("closed", 2)]:
            self.assertFalse(table_holds(game, table[:2] + [((2, 2, ()), 0, move)]))

    def test_a_safe_state_is_in_no_table_that_holds(self):
        game = RingGame(4, 2, Round(1))
        for state in closed_lot(game):
            for move in game.moves(state):
                self.assertFalse(table_holds(game, stall_table(game) + [(state, 10 ** 30, move)]))

    def test_drawn_tables(self):
        held = 0
        for seed, game in product(range(30), GAMES):
            draw = random.Random(seed)
            found = plain_lives(game)
            table = stall_table(game) + stall_table(game)[:seed % 3]
            for _ in range(draw.randrange(4)):
                if table:
                    self.bend(draw, game, table)
            draw.shuffle(table)
            holds = table_holds(game, table)
            self.assertIs(holds, plain_table_holds(game, table))
            if holds:
                held += 1
                for state, life, _ in table:
                    self.assertIsNotNone(found[state])
                    self.assertLessEqual(found[state], life)
        self.assertGreater(held, 50)

    def bend(self, draw, game, table):
        """Change, add or remove one entry."""
        at = draw.randrange(len(table))
        state, life, move = table[at]
        kind = draw.choice(["longer", "shorter", "all longer", "move", "gone", "other state"])
        if kind == "longer":
            table[at] = (state, life + draw.randrange(3), move)
        elif kind == "shorter":
            table[at] = (state, life - 1, move)
        elif kind == "all longer":
            table[:] = [(each, 2 * life + 1, which) for each, life, which in table]
        elif kind == "move":
            table[at] = (state, life, draw.choice(game.moves(state)))
        elif kind == "gone":
            del table[at]
        else:
            other = draw.choice(game.states())
            table.append((other, life, draw.choice(game.moves(other))))


class TestArguments(unittest.TestCase):
    """[4]: nothing that is passed is changed."""

    def test_nothing_is_changed(self):
        for game in GAMES:
            lot, table = closed_lot(game), stall_table(game)
            copies = list(lot), list(table)
            lot_holds(game, lot)
            table_holds(game, table)
            self.assertEqual((lot, table), copies)
            closed_lot(game).clear()
            stall_table(game).clear()
            self.assertEqual((closed_lot(game), stall_table(game)), copies)


if __name__ == "__main__":
    unittest.main()
