"""carrylog.duel: promises [52] to [60], and [3] to [5] for them."""

import copy
import random
import unittest
from itertools import product

from carrylog.duel import (
    Fewest, Oldest, Opponent, Scripted, SegmentKeeper, can_empty, run_duel, stall_bound,
)
from carrylog.errors import BadChoice, KeyLimit
from carrylog.segments import Segments
from carrylog.sums import segments_limit
from tests.outcomes import outcome
from tests.plain_segments import PlainKeeper, PlainOpponent, PlainSegments, view_of
from tests.refusing import check_every_mix, refused_field

BIG = 10 ** 30
HUGE = 10 ** 800
MINUS, ZERO = [-1, -BIG], [0, -1, -BIG]
KEYS = [f"k{number}" for number in range(10)] + ["a", "b", "c"]
KINDS = ["rest", "fewest", "oldest", "scripted"]


def filled(segments, size, limit, budget, keys, late=False):
    """A store with these keys, put one after the other without carries."""
    store = Segments(segments, size, limit, budget, late=late)
    for value, key in enumerate(keys):
        store.put(key, value)
    return store


def keepers(kind, numbers):
    """A keeper of this kind, and the plain model of it."""
    keeper = {
        "rest": SegmentKeeper, "fewest": Fewest, "oldest": Oldest, "scripted": lambda: Scripted(numbers),
    }[kind]()
    return keeper, PlainKeeper(kind, numbers)


def model_of(store):
    """The plain model of an empty store with the same terms."""
    return PlainSegments(store.segments, store.size, store.limit, store.budget, store.late)


def drawn_standing(draw, store, model, turns):
    """Bring both to one standing by drawn puts and deletes."""
    for _ in range(turns):
        key = draw.choice(KEYS)
        if draw.random() < 0.25:
            if outcome(store.delete, key)[0] == "done":
                model.delete(key)
        else:
            choices = PlainKeeper("scripted", [draw.randrange(7) for _ in range(9)]).choices(model, key)
            if outcome(store.put, key, 0, *choices)[0] == "done":
                model.put(key, 0, *choices)


def drawn_terms(draw, most_limit=10):
    segments, size = draw.randrange(1, 5), draw.randrange(1, 5)
    return segments, size, draw.randrange(1, most_limit), draw.randrange(4), draw.random() < 0.5


class TestCanEmpty(unittest.TestCase):
    """[52]."""

    def test_word_for_word(self):
        for written, fewest, budget, size in product(range(6), range(6), range(5), range(1, 9)):
            if budget == 0:
                expected = fewest == 0
            else:
                expected = fewest == 0 or written + fewest + -(-fewest // budget) - 1 <= size
            self.assertIs(can_empty(written, fewest, budget, size), expected)

    def test_by_carrying_one_after_the_other(self):
        """A segment is empty in time if the copies and the new records between them find places."""
        for written, fewest, budget, size in product(range(6), range(1, 6), range(1, 5), range(1, 9)):
            places, left = size - written, fewest
            while left > 0:
                copies = min(left, budget)
                places, left = places - copies, left - copies
                if left > 0:
                    places -= 1
            self.assertIs(can_empty(written, fewest, budget, size), places >= 0)

    def test_numbers_of_any_size(self):
        self.assertTrue(can_empty(HUGE, 0, 0, 1))
        self.assertTrue(can_empty(HUGE, 2 * HUGE, HUGE, 3 * HUGE + 1))
        self.assertFalse(can_empty(HUGE, 2 * HUGE, HUGE, 3 * HUGE))
        self.assertTrue(can_empty(HUGE, 2 * HUGE + 1, HUGE, 3 * HUGE + 3))
        self.assertFalse(can_empty(HUGE, 2 * HUGE + 1, HUGE, 3 * HUGE + 2))
        self.assertFalse(can_empty(0, HUGE, 0, HUGE))

    def test_refusals(self):
        check_every_mix(self, can_empty, {"written": 0, "fewest": 0, "budget": 0, "size": 1},
                        {"written": MINUS, "fewest": MINUS, "budget": MINUS, "size": ZERO})


class TestKeepers(unittest.TestCase):
    """[53], [54]."""

    def test_they_are_keepers(self):
        for keeper in [Fewest(), Oldest(), Scripted([])]:
            self.assertIsInstance(keeper, SegmentKeeper)

    def test_the_keeper_that_never_carries(self):
        store = filled(2, 2, 3, 5, "abc")
        self.assertEqual(SegmentKeeper().choices(store, "a"), [])

    def test_fewest(self):
        store = filled(3, 2, 5, 2, "abcd")
        self.assertEqual(Fewest().choices(store, "a"), [])
        store = filled(3, 2, 5, 2, "abcde")
        self.assertEqual(Fewest().choices(store, "a"), [0])
        self.assertEqual(Fewest().choices(store, "d"), [1])
        # The release of e frees the head, which is unwritten then.
        self.assertEqual(Fewest().choices(store, "e"), [])
        store = filled(3, 3, 8, 2, ["a", "b", "c", "d", "e", "f", "g"])
        self.assertEqual(Fewest().choices(store, "h"), [0, 0])
        self.assertEqual(Fewest().choices(store, "e"), [1, 1])
        store.put("f", 1)
        self.assertEqual(store.picture(), [["a", "b", "c"], ["d", "e", None], ["g", "f"]])
        self.assertEqual(Fewest().choices(store, "h"), [1])
        self.assertEqual(Fewest().choices(store, "a"), [0])
        self.assertEqual(Fewest().choices(store, "e"), [1])

    def test_fewest_stops_as_soon_as_a_segment_is_unwritten(self):
        store = filled(3, 3, 7, 5, ["a", "b", "c", "d", "e", "f", "a"])
        store.delete("b")
        self.assertEqual(store.picture(), [[None, None, "c"], ["d", "e", "f"], ["a"]])
        self.assertEqual(Fewest().choices(store, "g"), [0])
        # The oldest one does not stop: the copies fill segments 2 and 0, and 2 is closed then.
        self.assertEqual(Oldest().choices(store, "g"), [0, 1, 1, 1, 2])

    def test_oldest(self):
        store = filled(3, 1, 3, 2, "ab")
        store.delete("a")
        store.put("c", 1)
        store.put("d", 1)
        self.assertEqual((store.closed_by_age(), store.head), ([1, 0], 2))
        self.assertEqual(Oldest().choices(store, "d"), [1, 0])
        self.assertEqual(Fewest().choices(store, "c"), [])
        store = filled(3, 2, 9, 4, "abcde")
        self.assertEqual(Oldest().choices(store, "f"), [0])
        self.assertEqual(Oldest().choices(store, "e"), [0, 0, 1, 1])

    def test_scripted(self):
        store = filled(3, 2, 5, 3, "abcd")
        keeper = Scripted([1, 1, 0, 2, 9])
        self.assertEqual(keeper.used, 0)
        self.assertEqual(keeper.choices(store, "e"), [0, 0])
        self.assertEqual(keeper.used, 3)
        # At first segment 0 alone is closed; the copy of its record closes segment 1.
        self.assertEqual(keeper.choices(store, "e"), [0, 0])
        self.assertEqual(keeper.used, 5)
        self.assertEqual(keeper.choices(store, "e"), [])
        self.assertEqual(keeper.used, 5)
        keeper = Scripted([0, 1])
        self.assertEqual((keeper.choices(store, "e"), keeper.used), ([], 1))

    def test_scripted_goes_around_the_closed_segments(self):
        store = filled(4, 1, 5, 1, "abc")
        for number, picked in [(1, 0), (2, 1), (3, 0), (4, 1), (HUGE, (HUGE - 1) % 2)]:
            self.assertEqual(Scripted([number]).choices(store, "d"), [picked])

    def test_numbers_are_taken_for_picks_alone(self):
        for budget, keys in [(0, "abc"), (2, "a"), (2, "abcdef")]:
            keeper = Scripted([1, 2, 3])
            store = filled(3, 2, 6, budget, keys)
            self.assertEqual(keeper.choices(store, "g" if len(keys) < 6 else "c"), [])
            self.assertEqual(keeper.used, 0)

    def test_a_number_stays_taken_if_the_put_stalls(self):
        store = filled(2, 3, 6, 5, "abcde")
        keeper = Scripted([1, 1, 1])
        self.assertEqual(keeper.choices(store, "d"), [0])
        self.assertEqual(outcome(store.put, "d", 0, 0), ("Stalled", 5))
        self.assertEqual(keeper.used, 1)
        keeper = Scripted([1, 1, 1])
        self.assertEqual(run_duel(store, keeper, Opponent(6), 5), ([], True))
        self.assertEqual(keeper.used, 1)

    def test_numbers_are_copied(self):
        numbers = [1, 0]
        keeper = Scripted(numbers)
        numbers.clear()
        self.assertEqual(keeper.choices(filled(3, 2, 5, 3, "abcd"), "e"), [0])

    def test_nothing_is_chosen_for_a_put_that_is_refused(self):
        full = filled(2, 2, 4, 3, "abcd", late=True)
        limited = filled(3, 2, 4, 3, "abcd")
        for store, key in [(full, "a"), (full, "e"), (limited, "e")]:
            keeper = Scripted([1, 1])
            for each in [keeper, Fewest(), Oldest(), SegmentKeeper()]:
                self.assertEqual(each.choices(store, key), [])
            self.assertEqual(keeper.used, 0)

    def test_against_the_plain_model(self):
        chosen = 0
        for seed in range(500):
            draw = random.Random(seed)
            store = Segments(*drawn_terms(draw)[:4], late=draw.random() < 0.5)
            model = model_of(store)
            kind = draw.choice(KINDS)
            keeper, plain = keepers(kind, [draw.choice([0, 1, 1, 2, 3, 5]) for _ in range(30)])
            for _ in range(12):
                drawn_standing(draw, store, model, draw.randrange(4))
                key, before = draw.choice(KEYS), view_of(store, KEYS)
                choices = keeper.choices(store, key)
                chosen += len(choices)
                self.assertEqual(choices, plain.choices(model, key), seed)
                self.assertEqual(view_of(store, KEYS), before)
                if kind == "scripted":
                    self.assertEqual(keeper.used, plain.used)
                # What a keeper chooses is valid, whether or not the put itself stalls.
                came = outcome(store.twin().put, key, 0, *choices)[0]
                self.assertIn(came, ["done", "Stalled", "KeyLimit"])
                if came == "done" and draw.random() < 0.5:
                    store.put(key, 0, *choices)
                    model.put(key, 0, *choices)
        self.assertGreater(chosen, 500)

    def test_refusals(self):
        wrong = [[-1], [1, -1], [True], [0, False], [None], [1, "2"], [2.0], [-HUGE], [(1,)]]
        check_every_mix(self, Scripted, {"numbers": [0, 1]}, {"numbers": wrong})
        self.assertIsNone(refused_field(Scripted, []))
        self.assertIsNone(refused_field(Scripted, [HUGE]))


class TestFewestNeverStalls(unittest.TestCase):
    """[55]."""

    def check_moment(self, model, key):
        """At the carrying moment a segment is unwritten, or the best one can be emptied."""
        moment = copy.deepcopy(model)
        self.assertTrue(moment.to_the_moment(key, 0))
        if not moment.unwritten():
            fewest = min(len(moment.alive(number)) for number in moment.closed())
            written = len(moment.spots[moment.head])
            self.assertTrue(can_empty(written, fewest, moment.budget, moment.size))

    def test_drawn_plays(self):
        for seed in range(120):
            draw = random.Random(seed)
            segments, size = draw.randrange(1, 7), draw.randrange(1, 7)
            budget, late = draw.randrange(4), draw.random() < 0.5
            limit = segments_limit(segments, size, budget, late=late)
            if limit < 1:
                continue
            store = Segments(segments, size, limit, budget, late=late)
            model, opponent = model_of(store), Opponent(limit)
            for turn in range(150):
                alive = list(store.table())
                if alive and draw.random() < 0.1:
                    key = draw.choice(alive)
                    store.delete(key)
                    model.delete(key)
                    continue
                key = f"k{draw.randrange(limit)}"
                if seed % 3 == 0 or turn > 100:
                    key = opponent.next_key(store)
                self.check_moment(model, key)
                choices = Fewest().choices(store, key)
                store.put(key, turn, *choices)
                model.put(key, turn, *choices)

    def test_every_play_in_small_stores(self):
        """A game searched to its end: all puts and deletes from the empty store."""
        for segments, size, budget, late in [
            (2, 2, 1, False), (2, 2, 1, True), (2, 3, 1, False), (2, 3, 2, True), (3, 2, 1, False), (3, 2, 1, True),
            (3, 2, 0, False), (3, 2, 2, True), (4, 1, 1, False), (4, 1, 1, True), (1, 3, 1, False), (2, 4, 3, False),
        ]:
            limit = segments_limit(segments, size, budget, late=late)
            start = Segments(segments, size, limit, budget, late=late)
            met, todo = {self.shape(start): True}, [start]
            while todo:
                store = todo.pop()
                for after in self.after(store):
                    if self.shape(after) not in met:
                        met[self.shape(after)] = True
                        todo.append(after)
            self.assertGreater(len(met), 1 if segments == 1 else 5)

    def shape(self, store):
        rows = [tuple(key is not None for key in row) for row in store.picture()]
        return (store.head, tuple(rows))

    def after(self, store):
        alive = list(store.table())
        for key in alive:
            other = store.twin()
            other.delete(key)
            yield other
        fresh = [f"k{number}" for number in range(store.limit) if f"k{number}" not in store]
        for key in alive + fresh[:1]:
            other = store.twin()
            other.put(key, 0, *Fewest().choices(store, key))
            yield other


class TestOpponent(unittest.TestCase):
    """[56] to [58]."""

    def test_new_keys_first(self):
        store = Segments(3, 2, 4, 1)
        opponent = Opponent(3)
        self.assertEqual(opponent.next_key(store), "k0")
        store.put("k0", 0)
        store.put("k2", 0)
        self.assertEqual(opponent.next_key(store), "k1")
        store.put("k1", 0)
        self.assertFalse(opponent.second)
        self.assertEqual(opponent.debt(store), 3)

    def test_the_first_phase(self):
        store = filled(3, 4, 8, 1, "abcdefgh")
        opponent = Opponent(8)
        self.assertEqual([opponent.released(store, number) for number in range(3)], [0, 0, 0])
        self.assertEqual(opponent.debt(store), 8)
        # 2 * (0 + 1) < 4, then 2 * (1 + 1) < 4 fails: one release in each segment.
        self.assertEqual(opponent.next_key(store), "a")
        self.assertEqual((opponent.released(store, 0), opponent.debt(store)), (1, 6))
        store.put("a", 1)
        self.assertEqual(opponent.debt(store), 7)
        self.assertEqual(opponent.next_key(store), "e")
        store.put("e", 1)
        self.assertFalse(opponent.second)
        self.assertEqual(store.picture(), [[None, "b", "c", "d"], [None, "f", "g", "h"], ["a", "e"]])
        self.assertEqual(opponent.next_key(store), "e")
        self.assertTrue(opponent.second)
        self.assertEqual([opponent.released(store, number) for number in range(3)], [1, 1, 1])
        store.put("e", 2)
        # In the second phase nothing but the head counts.
        self.assertEqual(opponent.next_key(store), "e")
        self.assertEqual(opponent.released(store, 2), 2)

    def test_new_keys_in_the_second_phase_too(self):
        store = filled(2, 3, 3, 2, "abc")
        opponent = Opponent(3)
        self.assertEqual(opponent.next_key(store), "c")
        self.assertTrue(opponent.second)
        store.put("c", 1)
        store.delete("a")
        self.assertEqual(opponent.next_key(store), "k0")
        self.assertTrue(opponent.second)
        store.put("k0", 1)
        self.assertEqual(opponent.next_key(store), "k0")

    def test_the_late_head(self):
        # The new record is written first: the head has one place more, so 2 * 1 < 3.
        store = filled(2, 4, 2, 1, "ab", late=True)
        opponent = Opponent(2)
        self.assertEqual(opponent.next_key(store), "a")
        self.assertFalse(opponent.second)
        early = filled(2, 4, 2, 1, "ab")
        opponent = Opponent(2)
        self.assertEqual(opponent.next_key(early), "b")
        self.assertTrue(opponent.second)

    def test_the_late_head_is_full(self):
        # The new record opens segment 1, which holds no other record.
        store = filled(2, 2, 2, 1, "ab", late=True)
        opponent = Opponent(2)
        self.assertEqual(opponent.next_key(store), "a")
        self.assertTrue(opponent.second)
        self.assertEqual((opponent.released(store, 0), opponent.released(store, 1)), (1, 0))

    def test_an_early_head_without_a_living_record(self):
        store = filled(3, 2, 3, 3, "abc")
        store.delete("c")
        opponent = Opponent(2)
        self.assertEqual(store.picture(), [["a", "b"], [], []])
        self.assertEqual(opponent.next_key(store), "a")
        self.assertTrue(opponent.second)

    def test_a_late_store_without_a_place(self):
        store = filled(2, 2, 9, 0, "abcd", late=True)
        store.delete("a")
        for limit in [1, 3, 9]:
            opponent = Opponent(limit)
            self.assertEqual(opponent.next_key(store), "b")
            self.assertFalse(opponent.second)
            self.assertEqual((opponent.released(store, 0), opponent.debt(store)), (0, 4))

    def test_a_freed_segment_has_no_releases(self):
        store = filled(3, 3, 4, 1, "abcd")
        opponent = Opponent(4)
        self.assertEqual(opponent.next_key(store), "a")
        store.put("a", 1)
        self.assertEqual(opponent.released(store, 0), 1)
        store.delete("b")
        self.assertEqual(opponent.released(store, 0), 1)
        store.delete("c")
        self.assertEqual((opponent.released(store, 0), store.freed(0)), (0, 1))
        self.assertEqual(opponent.debt(store), 2)

    def test_a_release_that_frees_its_segment(self):
        store = filled(2, 3, 1, 0, "a")
        opponent = Opponent(1)
        self.assertEqual(opponent.next_key(store), "a")
        self.assertEqual((opponent.second, opponent.released(store, 0)), (True, 1))
        store.put("a", 1)
        self.assertEqual((opponent.released(store, 0), opponent.debt(store)), (0, 1))

    def test_next_key_does_not_change_the_store(self):
        store = filled(3, 2, 5, 1, "abcde")
        before = view_of(store, KEYS)
        opponent = Opponent(5)
        opponent.next_key(store), opponent.released(store, 1), opponent.debt(store)
        self.assertEqual(view_of(store, KEYS), before)

    def test_against_the_plain_model(self):
        """Also with other puts and deletes between a put and the next call."""
        seconds = 0
        for seed in range(600):
            draw = random.Random(seed)
            segments, size, limit, budget, late = drawn_terms(draw)
            store = Segments(segments, size, limit, budget, late=late)
            model = model_of(store)
            drawn_standing(draw, store, model, draw.choice([0, 0, 10]))
            own = draw.choice([limit, limit, draw.randrange(1, 10)])
            opponent, plain = Opponent(own), PlainOpponent(own)
            keeper, _ = keepers(draw.choice(KINDS), [draw.randrange(6) for _ in range(40)])
            for turn in range(25):
                key = opponent.next_key(store)
                self.assertEqual(key, plain.next_key(model), (seed, turn))
                self.assertIs(opponent.second, plain.second)
                choices = keeper.choices(store, key)
                if outcome(store.put, key, 0, *choices)[0] != "done":
                    break
                model.put(key, 0, *choices)
                if draw.random() < 0.2:
                    drawn_standing(draw, store, model, draw.randrange(3))
                numbers = range(segments)
                self.assertEqual([opponent.released(store, number) for number in numbers],
                                 [plain.d(model, number) for number in numbers])
                self.assertEqual(opponent.debt(store), plain.debt(model))
            seconds += opponent.second
        self.assertGreater(seconds, 100)

    def test_refusals(self):
        check_every_mix(self, Opponent, {"limit": 1}, {"limit": ZERO})
        store = Segments(3, 2, 5, 1)
        for segment in [-1, 3, BIG, -BIG]:
            self.assertEqual(refused_field(Opponent(2).released, store, segment), "segment")
        self.assertIsNone(refused_field(Opponent(2).released, store=store, segment=2))


class TestTheDuel(unittest.TestCase):
    """[58] to [60]."""

    def terms_above(self, seed):
        """Terms with a limit above the rule, and who plays."""
        draw = random.Random(seed)
        segments, size, _, budget, late = drawn_terms(draw)
        limit = segments_limit(segments, size, budget, late=late) + draw.choice([1, 1, 1, 2, 5])
        store = Segments(segments, size, limit, budget, late=late)
        keeper, _ = keepers(draw.choice(KINDS), [draw.choice([0, 1, 2, 3, 4]) for _ in range(900)])
        return draw, store, keeper, Opponent(limit)

    def test_every_keeper_stalls_within_the_bound(self):
        for seed in range(500):
            draw, store, keeper, opponent = self.terms_above(seed)
            drawn_standing(draw, store, model_of(store), draw.choice([0, 5, 25]))
            bound = stall_bound(store.segments, store.size, store.limit, len(store))
            rows, stalled = run_duel(store, keeper, opponent, bound + 1)
            self.assertTrue(stalled, seed)
            self.assertLessEqual(len(rows), bound)

    def test_great_stores(self):
        for kind, budget, late in product(KINDS, [0, 1, 4, 64], [False, True]):
            limit = segments_limit(8, 8, budget, late=late) + 1
            keeper, _ = keepers(kind, [1 + number % 7 for number in range(9000)])
            bound = stall_bound(8, 8, limit, 0)
            rows, stalled = run_duel(Segments(8, 8, limit, budget, late=late), keeper, Opponent(limit), bound + 1)
            self.assertTrue(stalled)
            self.assertLessEqual(len(rows), bound)
        store = Segments(8, 8, segments_limit(8, 8, 4), 4)
        self.assertEqual(run_duel(store, Fewest(), Opponent(70), 50)[1], False)

    def test_the_debt_in_the_first_phase(self):
        """[58]"""
        for seed in range(400):
            _, store, keeper, opponent = self.terms_above(seed)
            while True:
                full, debt = len(store) == store.limit, opponent.debt(store)
                key = opponent.next_key(store)
                if opponent.second:
                    break
                choices = keeper.choices(store, key)
                freed = sum(store.freed(number) for number in range(store.segments))
                if outcome(store.put, key, 0, *choices)[0] != "done":
                    break
                freed = sum(store.freed(number) for number in range(store.segments)) - freed
                if len(store) == store.limit:
                    for number in range(store.segments):
                        if store.written(number):
                            released = opponent.released(store, number)
                            self.assertLess((store.budget + 1) * released, store.written(number))
                    self.assertGreaterEqual(opponent.debt(store), 0)
                if full:
                    change = opponent.debt(store) - debt
                    self.assertLessEqual(change, len(choices) - store.budget - freed)
                    if freed == 0:
                        self.assertEqual(change, len(choices) - store.budget)

    def test_nothing_can_be_emptied_in_the_second_phase(self):
        """[59]"""
        seconds = 0
        for seed in range(600):
            _, store, keeper, opponent = self.terms_above(seed)
            model = model_of(store)
            while True:
                key = opponent.next_key(store)
                self.assertFalse(opponent.second and store.budget == 0)
                if opponent.second and model.has_place():
                    seconds += 1
                    self.check_release(model)
                choices = keeper.choices(store, key)
                if outcome(store.put, key, 0, *choices)[0] != "done":
                    break
                model.put(key, 0, *choices)
        self.assertGreater(seconds, 100)

    def check_release(self, model):
        moment = copy.deepcopy(model)
        if model.late:
            moment.write("new", 0)
        head = moment.head
        others = [number for number in moment.unwritten() if number != head]
        self.assertEqual(others, [])
        left = model.size - len(moment.spots[head])
        for number in moment.closed():
            alive = len(moment.alive(number))
            self.assertGreater(alive + -(-alive // model.budget) - 1, left)

    def test_rows(self):
        store = Segments(2, 2, 4, 1)
        keeper, opponent = Oldest(), Opponent(4)
        rows, stalled = run_duel(store, keeper, opponent, 9)
        # The put of k3 carries k0 to the last place and stalls.
        self.assertEqual((rows, stalled), ([("k0", []), ("k1", []), ("k2", [])], True))
        self.assertIsInstance(rows, list)
        self.assertEqual(store.picture(), [["k0", "k1"], ["k2"]])
        self.assertEqual(store.done, len(rows))
        self.assertEqual(set(store.table().values()), {0})

    def test_most(self):
        store = Segments(3, 2, 3, 1)
        opponent = Opponent(3)
        self.assertEqual(run_duel(store, SegmentKeeper(), opponent, 0), ([], False))
        self.assertEqual(run_duel(store, SegmentKeeper(), opponent, 2), ([("k0", []), ("k1", [])], False))
        self.assertEqual(run_duel(store, Fewest(), opponent, 1), ([("k2", [])], False))
        self.assertEqual((store.done, store.table()), (3, {"k0": 0, "k1": 0, "k2": 0}))

    def test_a_duel_is_the_same_put_by_put(self):
        for seed in range(200):
            draw = random.Random(seed)
            terms = drawn_terms(draw)
            kind, numbers = draw.choice(KINDS), [draw.randrange(5) for _ in range(60)]
            first, second = [Segments(*terms[:4], late=terms[4]) for _ in range(2)]
            limit = draw.randrange(1, terms[2] + 1)
            rows, stalled = run_duel(first, keepers(kind, numbers)[0], Opponent(limit), 30)
            keeper, opponent = keepers(kind, numbers)[0], Opponent(limit)
            again, came = [], "done"
            while len(again) < 30:
                key = opponent.next_key(second)
                choices = keeper.choices(second, key)
                came = outcome(second.put, key, 0, *choices)[0]
                if came != "done":
                    break
                again.append((key, choices))
            self.assertEqual((rows, stalled), (again, came == "Stalled"))
            self.assertEqual(view_of(first, KEYS), view_of(second, KEYS))

    def test_other_errors_go_through(self):
        store = Segments(3, 2, 2, 1)
        with self.assertRaises(KeyLimit) as caught:
            run_duel(store, Fewest(), Opponent(3), 9)
        self.assertEqual(caught.exception.most, 2)
        self.assertEqual((store.done, list(store.table())), (2, ["k0", "k1"]))

        class Wrong(SegmentKeeper):
            def choices(self, store, key):
                return [7] if store.done == 3 else []

        store = Segments(3, 2, 9, 1)
        with self.assertRaises(BadChoice) as caught:
            run_duel(store, Wrong(), Opponent(9), 9)
        self.assertEqual((caught.exception.choice, store.done), (7, 3))

    def test_the_bound(self):
        self.assertEqual(stall_bound(2, 3, 5, 1), 5 - 1 + 2 * 3 * 4 + 3)
        self.assertEqual(stall_bound(1, 1, 1, 0), 1 + 2 + 1)
        self.assertEqual(stall_bound(HUGE, HUGE, HUGE, 7), HUGE - 7 + HUGE * HUGE * (HUGE + 1) + HUGE)
        self.assertEqual(stall_bound(1, 1, 1, HUGE), 1 - HUGE + 3)

    def test_refusals(self):
        check_every_mix(self, stall_bound, {"segments": 1, "size": 1, "limit": 1, "count": 0},
                        {"segments": ZERO, "size": ZERO, "limit": ZERO, "count": MINUS})
        store = Segments(3, 2, 3, 1)
        opponent = Opponent(3)
        for most in MINUS:
            self.assertEqual(refused_field(run_duel, store, Scripted([1]), opponent, most), "most")
        self.assertEqual((store.done, opponent.second), (0, False))


if __name__ == "__main__":
    unittest.main()
