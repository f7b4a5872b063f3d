"""carrylog.segments: promises [45] to [51], and [3] to [5] for them."""

import random
import unittest
from itertools import product

from carrylog.segments import Segments
from tests.outcomes import outcome
from tests.plain_ring import Refused
from tests.plain_segments import PlainKeeper, PlainSegments, view_of
from tests.refusing import check_every_mix, refused_field

BIG = 10 ** 30
HUGE = 10 ** 3000
KEYS = ["a", "b", "c", "d", "e", "f", "0", "zz9"]
NO_KEYS = ["", "A", "a b", "a" * 13, "-", "\n", "a\n", "\u00e4"]
MINUS, ZERO = [-1, -BIG], [0, -1, -BIG]


def model_outcome(call, *args):
    try:
        return ("done", call(*args))
    except Refused as refusal:
        return refusal.args


def filled(segments, size, limit, budget, keys, late=False):
    """A store with these keys, put one after the other without carries."""
    store = Segments(segments, size, limit, budget, late=late)
    for value, key in enumerate(keys):
        store.put(key, value)
    return store


class TestTheStore(unittest.TestCase):
    """[45] to [48]."""

    def test_it_starts_unwritten(self):
        store = Segments(3, 2, 4, 1)
        self.assertEqual(view_of(store, KEYS), PlainSegments(3, 2, 4, 1).view(KEYS))
        self.assertEqual((store.head, store.room, store.picture(), store.table()), (0, 6, [[], [], []], {}))
        self.assertEqual((store.summary(), store.closed(), store.closed_by_age()), ((0, 0, ()), [], []))
        self.assertIs(store.late, False)
        self.assertIs(Segments(3, 2, 4, 1, late=True).late, True)

    def test_the_example(self):
        store = Segments(2, 2, 3, 1)
        for value, key in enumerate("abc"):
            self.assertIsNone(store.put(key, value))
        self.assertEqual(store.picture(), [["a", "b"], ["c"]])
        self.assertEqual((store.head, store.room, store.closed()), (1, 1, [0]))
        store.put("a", 7, 0)
        self.assertEqual(store.picture(), [["a"], ["c", "b"]])
        self.assertEqual((store.head, store.room, store.closed(), store.freed(0), store.freed(1)), (0, 1, [1], 1, 0))
        self.assertEqual(list(store.table().items()), [("a", 7), ("c", 2), ("b", 1)])
        self.assertEqual((store.done, store.carried, store.last_wait, len(store)), (4, 1, 1, 3))

    def test_summary(self):
        store = filled(4, 3, 9, 0, "abcdefabgh")
        self.assertEqual(store.picture(), [[None, None, "c"], ["d", "e", "f"], ["a", "b", "g"], ["h"]])
        self.assertEqual(store.summary(), (1, 1, (1, 3, 3)))
        self.assertIsInstance(store.summary()[2], tuple)
        self.assertEqual([store.living(number) for number in range(4)], [1, 3, 3, 1])
        self.assertEqual([store.written(number) for number in range(4)], [3, 3, 3, 1])

    def test_the_head_is_freed_and_stays_the_head(self):
        store = filled(2, 2, 3, 0, "a")
        store.put("a", 1)
        self.assertEqual((store.picture(), store.head, store.freed(0), store.room), ([["a"], []], 0, 1, 3))
        store.delete("a")
        self.assertEqual((store.picture(), store.head, store.freed(0), store.room), ([[], []], 0, 2, 4))
        store = filled(2, 2, 3, 0, "abc")
        store.delete("c")
        self.assertEqual((store.picture(), store.head, store.closed(), store.room), ([["a", "b"], []], 1, [0], 2))
        store.put("d", 1)
        self.assertEqual((store.picture(), store.head), ([["a", "b"], ["d"]], 1))

    def test_a_full_head_is_freed_and_stays_the_head(self):
        store = filled(2, 2, 3, 0, "ab")
        store.delete("a")
        self.assertEqual((store.picture(), store.head, store.room), ([[None, "b"], []], 0, 2))
        store.delete("b")
        self.assertEqual((store.picture(), store.head, store.room, store.freed(0)), ([[], []], 0, 4, 1))

    def test_the_smallest_unwritten_segment_becomes_the_head(self):
        store = filled(4, 1, 4, 0, "abc")
        store.delete("b")
        self.assertEqual(store.picture(), [["a"], [], ["c"], []])
        store.put("d", 1)
        self.assertEqual((store.head, store.closed(), store.closed_by_age()), (1, [0, 2], [0, 2]))
        store.put("e", 1)
        self.assertEqual((store.head, store.closed(), store.closed_by_age()), (3, [0, 1, 2], [0, 2, 1]))

    def test_the_last_time_as_the_head_counts(self):
        store = filled(3, 1, 3, 0, "ab")
        store.delete("a")
        store.put("c", 1)
        self.assertEqual((store.head, store.closed_by_age()), (0, [1]))
        store.put("d", 1)
        self.assertEqual((store.head, store.closed(), store.closed_by_age()), (2, [0, 1], [1, 0]))
        # A head that was freed and written again did not become the head anew.
        store.delete("d")
        store.delete("b")
        store.put("e", 1)
        store.put("f", 1)
        self.assertEqual((store.head, store.closed_by_age()), (1, [0, 2]))

    def test_one_segment(self):
        for late in [False, True]:
            store = filled(1, 3, 3, 5, "ab", late)
            self.assertEqual((store.closed(), store.room), ([], 1))
            self.assertEqual(outcome(store.put, "c", 1, 0), ("BadChoice", 0))
            store.put("a", 5)
            self.assertEqual((store.picture(), store.room), ([[None, "b", "a"]], 0))
            self.assertEqual(outcome(store.put, "a", 6), ("Stalled", 3))
            self.assertEqual(outcome(store.put, "c", 6), ("Stalled", 3))
            store.delete("a")
            store.delete("b")
            self.assertEqual((store.picture(), store.room), ([[]], 3))

    def test_size_one(self):
        store = Segments(1, 1, 2, 0)
        for value in range(3):
            store.put("a", value)
        self.assertEqual((store.table(), store.freed(0)), ({"a": 2}, 2))
        late = Segments(2, 1, 2, 0, late=True)
        for value in range(3):
            late.put("a", value)
        self.assertEqual((late.table(), late.freed(0), late.freed(1), late.head), ({"a": 2}, 1, 1, 0))
        self.assertEqual(outcome(Segments(1, 1, 2, 0, late=True).put, "a", 1), ("done", None))

    def test_results_are_new(self):
        store = filled(3, 2, 4, 1, "abcd")
        before = view_of(store, KEYS)
        store.table().clear()
        store.closed().append(9)
        store.closed_by_age().append(9)
        picture = store.picture()
        picture[0].append("x")
        picture.append([])
        self.assertEqual(view_of(store, KEYS), before)

    def test_any_string_may_be_asked_for(self):
        store = filled(3, 2, 4, 1, "ab")
        for key in NO_KEYS + ["c"]:
            self.assertNotIn(key, store)
            self.assertEqual(outcome(store.read, key), ("UnknownKey", key))
            self.assertEqual(outcome(store.delete, key), ("UnknownKey", key))
        self.assertEqual((store.read("a"), store.read("b"), "a" in store), (0, 1, True))

    def test_delete(self):
        store = filled(2, 2, 3, 1, "abc")
        self.assertIsNone(store.delete("b"))
        self.assertEqual((store.done, store.carried, store.last_wait, store.picture()), (3, 0, 0, [["a", None], ["c"]]))
        self.assertIsNone(store.delete("a"))
        self.assertEqual((store.picture(), store.freed(0), store.room), ([[], ["c"]], 1, 3))
        self.assertEqual(outcome(store.delete, "a"), ("UnknownKey", "a"))

    def test_a_twin_is_independent(self):
        store = filled(3, 2, 4, 1, "abcd")
        store.put("a", 5, 0)
        before = view_of(store, KEYS)
        twin = store.twin()
        self.assertEqual(view_of(twin, KEYS), before)
        twin.delete("a")
        twin.put("e", 9)
        twin.put("b", 9)
        self.assertEqual(view_of(store, KEYS), before)
        other = store.twin()
        store.delete("a")
        self.assertEqual(view_of(other, KEYS), before)


class TestPut(unittest.TestCase):
    """[46], [49], [50]."""

    def test_the_record_in_the_smallest_place_is_carried(self):
        store = filled(3, 3, 5, 2, "abcd")
        store.put("a", 9, 0)
        self.assertEqual(store.picture(), [[None, None, "c"], ["d", "b", "a"], []])
        self.assertEqual(store.read("b"), 1)

    def test_copies_that_fill_the_last_place(self):
        store = filled(3, 2, 5, 4, "abcd")
        # The copies of a and c fill segment 2, and nothing is freed by them.
        self.assertEqual(outcome(store.twin().put, "e", 9, 0, 1), ("Stalled", 4))
        self.assertEqual(outcome(store.twin().put, "e", 9, 0, 1, 0), ("BadChoice", 0))
        store.put("e", 9, 0, 0)
        self.assertEqual((store.picture(), store.head), ([["e"], ["c", "d"], ["a", "b"]], 0))

    def test_a_choice_that_becomes_closed_during_the_put(self):
        store = filled(4, 2, 6, 4, "abcd")
        self.assertEqual((store.head, store.closed()), (1, [0]))
        self.assertEqual(outcome(store.twin().put, "e", 9, 1, 0), ("BadChoice", 1))
        store.put("e", 9, 0, 1)
        self.assertEqual(store.picture(), [[None, "b"], [None, "d"], ["a", "c"], ["e"]])
        self.assertEqual((store.carried, store.last_wait, store.closed_by_age()), (2, 2, [0, 1, 2]))

    def test_a_choice_that_is_free_when_its_turn_comes(self):
        store = filled(4, 2, 6, 4, "abc")
        self.assertEqual(outcome(store.twin().put, "a", 9, 0, 0), ("BadChoice", 0))
        store.put("a", 9, 0)
        self.assertEqual(store.picture(), [["a"], ["c", "b"], [], []])

    def test_a_late_choice_may_carry_the_new_record(self):
        store = filled(4, 1, 4, 3, "ab", late=True)
        # The late write goes to segment 2; the copy of a closes it, and so the new record can be carried.
        store.put("c", 9, 0, 2)
        self.assertEqual((store.picture(), store.table()), ([["c"], ["b"], [], ["a"]], {"c": 9, "b": 1, "a": 0}))
        self.assertEqual((store.last_wait, store.head, store.freed(2)), (2, 0, 1))
        other = filled(4, 1, 4, 3, "ab", late=True)
        self.assertEqual(outcome(other.put, "c", 9, 2), ("BadChoice", 2))

    def test_late_release_after_the_write(self):
        store = filled(2, 2, 3, 0, "ab", late=True)
        store.put("a", 9)
        self.assertEqual(store.picture(), [[None, "b"], ["a"]])
        store.put("a", 10)
        self.assertEqual(store.picture(), [[None, "b"], [None, "a"]])
        self.assertEqual(outcome(store.put, "b", 1), ("Stalled", 4))
        self.assertEqual(outcome(store.put, "a", 1), ("Stalled", 4))
        early = filled(2, 2, 3, 0, "abaa")
        self.assertEqual(early.picture(), [[None, "b"], ["a"]])

    def test_budget_zero(self):
        store = filled(3, 2, 4, 0, "abc")
        self.assertEqual(outcome(store.put, "d", 1, 0), ("BadChoice", 1))
        self.assertEqual(outcome(store.put, "d", 1), ("done", None))


class TestErrors(unittest.TestCase):
    """[50], [51]: which error, and which one first; nothing changes."""

    def check(self, store, expected, call, *args):
        before = view_of(store, KEYS)
        self.assertEqual(outcome(call, *args), expected)
        self.assertEqual(view_of(store, KEYS), before)

    def test_all_at_once(self):
        for late in [False, True]:
            store = filled(2, 2, 4, 1, "abcd", late)
            self.check(store, ("InvalidInput", "key"), store.put, "E", 1, 7, 7)
            self.check(store, ("KeyLimit", 4), store.put, "e", 1, 7, 7)
            self.check(store, ("BadChoice", 2), store.put, "a", 1, 7, 7)
            self.check(store, ("BadChoice", 3), store.put, "a", 1, 7, 7, 7)
            # Nowhere is a place: the late order sees it first, the early one at the copy.
            self.check(store, ("Stalled", 4) if late else ("BadChoice", 7), store.put, "a", 1, 7)
            self.check(store, ("Stalled", 4) if late else ("BadChoice", 0), store.put, "b", 1, 0)
            self.check(store, ("Stalled", 4), store.put, "a", 1)

    def test_deeds_counts_the_puts_alone(self):
        store = filled(1, 2, 3, 0, "ab")
        store.delete("a")
        self.check(store, ("Stalled", 2), store.put, "c", 1)

    def test_bad_choices(self):
        for late in [False, True]:
            store = filled(4, 2, 6, 3, "abcde", late)
            self.check(store, ("BadChoice", 2), store.put, "f", 1, 2, 0)
            for choice in [3, 4, -1, -4, BIG, -BIG, HUGE, -HUGE]:
                self.check(store, ("BadChoice", choice), store.put, "f", 1, choice)
                self.check(store, ("BadChoice", choice), store.put, "f", 1, 0, choice, 9)
                self.check(store, ("BadChoice", choice), store.put, "a", 1, choice, 0)

    def test_no_place_for_a_copy(self):
        store = filled(2, 3, 6, 5, "abcd")
        self.check(store, ("BadChoice", 0), store.put, "a", 1, 0, 0, 0)
        store = filled(2, 3, 6, 5, "abcde")
        self.check(store, ("BadChoice", 0), store.put, "d", 1, 0, 0)
        self.check(store, ("Stalled", 5), store.put, "d", 1, 0)
        late = filled(2, 3, 6, 5, "abcde", late=True)
        self.check(late, ("BadChoice", 0), late.put, "d", 1, 0)

    def test_the_key_limit_counts_new_keys_alone(self):
        store = filled(4, 2, 2, 0, "ab")
        self.check(store, ("KeyLimit", 2), store.put, "c", 1)
        store.put("a", 5)
        store.delete("b")
        store.put("c", 1)
        self.assertEqual(store.table(), {"a": 5, "c": 1})

    def test_segments_are_limited(self):
        store = filled(3, 2, 4, 1, "ab")
        for call in [store.written, store.living, store.freed]:
            for segment in [-1, 3, 4, BIG, -BIG]:
                self.assertEqual(refused_field(call, segment), "segment")
            self.assertEqual([refused_field(call, segment=number) for number in range(3)], [None] * 3)

    def test_of_the_constructor(self):
        good = {"segments": 2, "size": 2, "limit": 9, "budget": 0}
        broken = {"segments": ZERO, "size": ZERO, "limit": ZERO, "budget": MINUS}
        check_every_mix(self, Segments, good, broken)
        check_every_mix(self, Segments, good, broken, {"late": True})


class TestDrawnPlays(unittest.TestCase):
    """[46] to [51]: whatever is put, deleted and carried, against the plain model."""

    def play(self, seed):
        draw = random.Random(seed)
        segments, size = draw.randrange(1, 6), draw.randrange(1, 5)
        limit = draw.randrange(1, 9)
        budget, late = draw.randrange(5), draw.random() < 0.5
        store = Segments(segments, size, limit, budget, late=late)
        model = PlainSegments(segments, size, limit, budget, late)
        done = 0
        for turn in range(50):
            key = draw.choice(KEYS if draw.random() < 0.97 else NO_KEYS)
            kind = draw.randrange(9)
            if kind == 0:
                store = store.twin()
            if kind <= 2:
                got, expected = outcome(store.delete, key), model_outcome(model.delete, key)
            else:
                # A scripted model chooses well; now and then a choice is put among its choices.
                choices = PlainKeeper("scripted", [draw.randrange(9) for _ in range(9)]).choices(model, key)
                if draw.random() < 0.2:
                    choices.insert(draw.randrange(len(choices) + 1), draw.randrange(-1, 6))
                args = (key, draw.randrange(99), *choices)
                got, expected = outcome(store.put, *args), model_outcome(model.put, *args)
                done += got[0] == "done" and len(args) > 2
            with self.subTest(seed=seed, turn=turn):
                self.assertEqual(got, expected)
                self.assertEqual(view_of(store, KEYS), model.view(KEYS))
        return done

    def test_against_the_plain_model(self):
        self.assertGreater(sum(self.play(seed) for seed in range(400)), 1500)

    def test_what_is_closed_is_written(self):
        """[46]: every place of a closed segment is written."""
        for seed, late in product(range(60), [False, True]):
            draw = random.Random(seed)
            store = Segments(8, 8, 40, 4, late=late)
            for _ in range(150):
                closed = store.closed()
                choices = [draw.choice(closed) for _ in range(draw.randrange(4))] if closed else []
                key = f"k{draw.randrange(40)}"
                if draw.random() < 0.1:
                    outcome(store.delete, key)
                else:
                    outcome(store.put, key, 0, *choices)
                for number in range(8):
                    is_closed = number != store.head and store.living(number) > 0
                    self.assertEqual(number in store.closed(), is_closed)
                    if is_closed:
                        self.assertEqual(store.written(number), 8)
                    self.assertEqual(store.written(number) > 0, store.living(number) > 0)


if __name__ == "__main__":
    unittest.main()
