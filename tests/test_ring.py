"""carrylog.ring: promises [21] to [31], and [3] to [5] for them."""

import random
import unittest
from itertools import product

from carrylog.errors import UnknownKey
from carrylog.ring import Ring
from carrylog.rounds import Round
from carrylog.words import newest, step
from tests.outcomes import outcome
from tests.plain_ring import PlainRing, Refused, picture_of
from tests.refusing import check_every_mix, refused_field

BIG = 10 ** 30
HUGE = 10 ** 3000
NO_ROUNDS = [1, [1], (1, 2), "1"]
KEYS = ["a", "b", "c", "d", "0", "zz9"]
NO_KEYS = ["", "A", "a b", "a" * 13, "-", "a_", "\n", "a\n", "\u00e4", "\u0661", "0" * 13]
ROUNDS = [[0], [1], [2], [3, 0], [0, 1], [2, 0, 0], [1, 0, 3, 2]]


def model_outcome(call, *args):
    """Like `outcome`, for the plain model."""
    try:
        return ("done", call(*args))
    except Refused as refusal:
        return refusal.args


def filled(places, limit, budgets, keys, **named):
    """A ring with these keys, put one after the other without carries."""
    ring = Ring(places, limit, budgets, **named)
    for value, key in enumerate(keys):
        ring.put(key, value, 0)
    return ring


class TestTheRing(unittest.TestCase):
    """[21] to [25]."""

    def test_it_starts_empty(self):
        ring = Ring(5, 3, Round(1, 2))
        self.assertEqual(picture_of(ring, KEYS), PlainRing(5, 3, [1, 2]).picture(KEYS))
        self.assertEqual((ring.word, ring.free, ring.phase, ring.done, ring.last_wait), ("", 5, 0, 0, 0))
        self.assertEqual((ring.late, ring.readers), (False, 0))
        self.assertEqual((ring.table(), ring.log(), list(ring.scan()), ring.open_readers()), ({}, [], [], []))

    def test_the_terms(self):
        budgets = Round(1, 2)
        self.assertEqual(Ring(5, 3, budgets).budgets, budgets)
        self.assertTrue(Ring(5, 3, budgets, late=True).late)
        self.assertEqual(Ring(5, 3, budgets, readers=4).readers, 4)

    def test_the_example(self):
        ring = Ring(5, 3, Round(1))
        waits = []
        for value, key in enumerate("abc"):
            self.assertIsNone(ring.put(key, value))
            waits.append(ring.last_wait)
        self.assertEqual(waits, [0, 1, 1])
        self.assertEqual((list(ring.table()), ring.word), (["b", "a", "c"], "111"))
        ring.put("c", 7)
        self.assertEqual((list(ring.table().items()), ring.word), ([("a", 0), ("b", 1), ("c", 7)], "1011"))
        self.assertEqual(ring.log(), [("a", 0), None, ("b", 1), ("c", 7)])
        self.assertEqual(list(ring.scan()), [("a", 0), ("b", 1), ("c", 7)])
        self.assertEqual([ring.age(key) for key in "abc"], [4, 2, 1])
        self.assertEqual((ring.done, ring.carried, ring.last_wait, ring.phase, ring.free), (4, 3, 1, 0, 1))

    def test_scan_ascends_by_the_keys(self):
        ring = filled(9, 9, Round(0), ["b", "a", "10", "9", "ab"])
        self.assertEqual([key for key, _ in ring.scan()], ["10", "9", "a", "ab", "b"])
        self.assertEqual(list(ring.table()), ["b", "a", "10", "9", "ab"])

    def test_phases_go_around(self):
        ring = Ring(9, 2, Round(0, 1, 2))
        phases = []
        for deed in [ring.put, ring.put, ring.put]:
            deed("a", 1)
            phases.append(ring.phase)
        ring.delete("a")
        self.assertEqual(phases + [ring.phase, ring.done], [1, 2, 0, 1, 4])

    def test_lists_and_dictionaries_are_new(self):
        ring = filled(9, 9, Round(0), "ab", readers=2)
        ring.open_reader()
        before = picture_of(ring, KEYS)
        ring.table().clear()
        ring.log().clear()
        ring.open_readers().append(5)
        ring.budgets.budgets.append(5)
        list(ring.scan()).clear()
        self.assertEqual(picture_of(ring, KEYS), before)

    def test_any_string_may_be_asked_for(self):
        ring = filled(5, 3, Round(1), "ab", readers=1)
        ring.open_reader()
        for key in NO_KEYS + ["c"]:
            self.assertNotIn(key, ring)
            for call in [ring.read, ring.age, ring.delete]:
                self.assertEqual(outcome(call, key), ("UnknownKey", key))
            self.assertEqual(outcome(ring.read_as, 0, key), ("UnknownKey", key))
            self.assertEqual(outcome(ring.delete, key, HUGE), ("UnknownKey", key))

    def test_a_deleted_key_is_unknown_and_may_come_back(self):
        ring = filled(5, 2, Round(1), "ab")
        self.assertEqual((ring.read("a"), ring.read("b")), (0, 1))
        self.assertIsNone(ring.delete("a"))
        self.assertEqual(outcome(ring.read, "a"), ("UnknownKey", "a"))
        self.assertEqual((len(ring), "a" in ring, ring.table()), (1, False, {"b": 1}))
        ring.put("a", -5)
        self.assertEqual(ring.table(), {"b": 1, "a": -5})

    def test_one_place(self):
        ring = Ring(1, 1, Round(3))
        for value in range(3):
            ring.put("a", value)
            self.assertEqual((ring.word, ring.last_wait, ring.read("a")), ("1", 0, value))
        ring.delete("a")
        self.assertEqual((ring.word, ring.free, ring.done), ("", 1, 4))
        late = Ring(1, 1, Round(3), late=True)
        late.put("a", 1)
        self.assertEqual(outcome(late.put, "a", 2), ("Stalled", 1))
        self.assertEqual(outcome(late.delete, "a"), ("Stalled", 1))

    def test_limit_equal_to_places(self):
        ring = filled(3, 3, Round(5), "abc")
        self.assertEqual(ring.word, "111")
        self.assertEqual(outcome(ring.put, "b", 1), ("Stalled", 3))
        ring.put("a", 9)
        self.assertEqual(list(ring.table()), ["b", "c", "a"])

    def test_limit_one(self):
        for late, places in [(False, 1), (True, 2)]:
            ring = Ring(places, 1, Round(0), late=late)
            for value in range(5):
                ring.put("a", value)
                self.assertEqual((ring.word, ring.table()), ("1", {"a": value}))

    def test_many_keys(self):
        ring = Ring(64, 42, Round(2), late=True)
        keys = [f"k{number}" for number in range(42)]
        for turn in range(20):
            for key in keys:
                ring.put(key, turn)
            keys.reverse()
        self.assertEqual(ring.table(), {key: 19 for key in keys})
        self.assertEqual((ring.done, len(ring)), (840, 42))


class TestPut(unittest.TestCase):
    """[25] to [28]."""

    def test_the_greedy_count(self):
        ring = filled(6, 4, Round(0, 0, 0, BIG), "abc")
        ring.put("d", 3)
        self.assertEqual((ring.last_wait, list(ring.table()), ring.word), (3, ["a", "b", "c", "d"], "1111"))
        late = filled(6, 4, Round(0, 0, 0, BIG), "abc", late=True)
        late.put("d", 3)
        self.assertEqual((late.last_wait, list(late.table()), late.word), (3, ["d", "a", "b", "c"], "1111"))

    def test_the_others_do_not_count_the_record_of_the_key(self):
        for late in [False, True]:
            ring = filled(9, 3, Round(0, 0, 0, 9), "abc", late=late)
            ring.put("b", 5)
            self.assertEqual(ring.last_wait, 2)
            ring = filled(9, 3, Round(0, 0, 0, 9), "abc", late=late)
            ring.delete("b")
            self.assertEqual((ring.last_wait, ring.done), (2, 4))

    def test_given_counts(self):
        for count in [0, 1, 2]:
            ring = filled(9, 3, Round(0, 0, 0, 2), "abc")
            ring.put("c", 5, count)
            self.assertEqual((ring.last_wait, ring.carried), (count, count))
            self.assertEqual(list(ring.table()), [["a", "b", "c"], ["b", "a", "c"], ["a", "b", "c"]][count])
        ring.put(key="c", value=6, count=0)
        self.assertEqual(outcome(ring.put, "c", 7, count=1), ("BadChoice", 1))
        ring.delete(key="c", count=0)

    def test_a_tombstone_takes_a_place(self):
        ring = filled(5, 3, Round(0), "abc")
        ring.delete("c")
        self.assertEqual((ring.word, ring.free), ("1100", 1))
        ring.delete("b")
        self.assertEqual((ring.word, ring.free), ("10000", 0))
        self.assertEqual(outcome(ring.delete, "a"), ("done", None))
        self.assertEqual((ring.word, ring.free, ring.log()), ("", 5, []))

    def test_a_tombstone_without_a_place(self):
        for late in [False, True]:
            ring = filled(3, 3, Round(0), "abc", late=late)
            self.assertEqual(outcome(ring.delete, "b"), ("Stalled", 3))
        self.assertEqual(outcome(ring.delete, "a"), ("Stalled", 3))
        self.assertEqual(outcome(filled(3, 3, Round(0), "abc").delete, "a"), ("done", None))

    def test_the_late_order_writes_first(self):
        ring = filled(3, 3, Round(9), "abc", late=True)
        self.assertEqual(ring.free, 0)
        for key in "abc":
            self.assertEqual(outcome(ring.put, key, 9), ("Stalled", 3))
            self.assertEqual(outcome(ring.put, key, 9, -1), ("Stalled", 3))

    def test_a_late_put_that_fills_the_log_carries_nothing(self):
        ring = filled(3, 3, Round(9), "ab", late=True)
        ring.put("b", 5)
        self.assertEqual((ring.word, ring.last_wait, ring.free), ("101", 0, 0))
        ring = filled(3, 3, Round(9), "ab", late=True)
        self.assertEqual(outcome(ring.put, "b", 5, 1), ("BadChoice", 1))
        # The tail of the log comes free by the release, before anything is carried.
        ring.put("a", 5, 1)
        self.assertEqual((ring.word, ring.last_wait, list(ring.table())), ("11", 1, ["a", "b"]))


class TestErrors(unittest.TestCase):
    """[27], [28]: which error, and which one first; nothing changes."""

    def check(self, ring, expected, call, *args, **named):
        before = picture_of(ring, KEYS)
        self.assertEqual(outcome(call, *args, **named), expected)
        self.assertEqual(picture_of(ring, KEYS), before)

    def test_bad_counts(self):
        for late in [False, True]:
            ring = filled(9, 4, Round(0, 0, 0, 2), "abc", late=late)
            for count in [-1, -HUGE, 3, 4, BIG, HUGE]:
                self.check(ring, ("BadChoice", count), ring.put, "a", 9, count)
                self.check(ring, ("BadChoice", count), ring.put, "d", 9, count)
                self.check(ring, ("BadChoice", count), ring.delete, "a", count)
            ring = filled(9, 4, Round(0, 0, 0, 9), "abc", late=late)
            self.check(ring, ("BadChoice", 3), ring.put, "a", 9, 3)
            self.check(ring, ("BadChoice", 4), ring.put, "d", 9, 4)
            self.check(ring, ("BadChoice", 3), ring.delete, "a", 3)

    def test_no_place_for_a_copy_comes_before_no_place_for_the_append(self):
        ring = filled(3, 3, Round(0, 0, 0, 9), "abc")
        self.check(ring, ("BadChoice", 1), ring.put, "b", 9, 1)
        self.check(ring, ("BadChoice", 1), ring.delete, "b", 1)
        self.check(ring, ("Stalled", 3), ring.put, "b", 9, 0)
        self.check(ring, ("Stalled", 3), ring.put, "b", 9)
        self.check(ring, ("Stalled", 3), ring.delete, "c")
        self.check(ring, ("BadChoice", -1), ring.put, "b", 9, -1)

    def test_no_place_at_first_comes_before_bad_counts_in_the_late_order(self):
        ring = filled(3, 3, Round(0, 0, 0, 9), "abc", late=True)
        for count in [None, -1, 0, 1, 99]:
            self.check(ring, ("Stalled", 3), ring.put, "b", 9, count)
            self.check(ring, ("Stalled", 3), ring.delete, "b", count)

    def test_key_limit_comes_before_all_but_the_key(self):
        for late, count in product([False, True], [None, -1, 0, 99]):
            ring = filled(2, 2, Round(1), "ab", late=late)
            self.check(ring, ("KeyLimit", 2), ring.put, "c", 9, count)
            for key in NO_KEYS:
                self.check(ring, ("InvalidInput", "key"), ring.put, key, 9, count)

    def test_unknown_key_comes_first_in_delete(self):
        for late, count in product([False, True], [None, -1, 0, 99]):
            ring = filled(2, 2, Round(1), "ab", late=late)
            self.check(ring, ("UnknownKey", "c"), ring.delete, "c", count)

    def test_keys_of_all_lengths(self):
        ring = Ring(9, 3, Round(0))
        for key in ["a", "z", "0", "9", "abcdefghijkl", "000000000000"]:
            ring.put(key, 1)
            ring.delete(key)


class TestReaders(unittest.TestCase):
    """[29]."""

    def test_numbers(self):
        ring = Ring(5, 2, Round(1), readers=2)
        self.assertEqual((ring.open_reader(), ring.open_reader()), (0, 1))
        self.assertEqual(outcome(ring.open_reader), ("ReaderLimit", 2))
        self.assertIsNone(ring.close_reader(0))
        self.assertEqual(ring.open_readers(), [1])
        self.assertEqual(ring.open_reader(), 2)
        self.assertEqual(ring.open_readers(), [1, 2])
        self.assertEqual(ring.done, 0)

    def test_no_readers(self):
        self.assertEqual(outcome(Ring(5, 2, Round(1)).open_reader), ("ReaderLimit", 0))
        self.assertEqual(outcome(Ring(5, 2, Round(1), late=True).open_reader), ("ReaderLimit", 0))

    def test_unknown_readers(self):
        ring = filled(5, 2, Round(1), "a", readers=2)
        ring.open_reader()
        ring.open_reader()
        ring.close_reader(0)
        before = picture_of(ring, KEYS)
        for reader in [0, 2, -1, BIG, -HUGE, HUGE]:
            self.assertEqual(outcome(ring.close_reader, reader), ("UnknownReader", reader))
            self.assertEqual(outcome(ring.read_as, reader, "a"), ("UnknownReader", reader))
            self.assertEqual(outcome(ring.read_as, reader, "b"), ("UnknownReader", reader))
        self.assertEqual(picture_of(ring, KEYS), before)

    def test_a_reader_sees_the_table_of_its_moment(self):
        ring = filled(9, 2, Round(0), "ab", readers=2)
        first = ring.open_reader()
        ring.put("a", 7)
        second = ring.open_reader()
        ring.delete("b")
        self.assertEqual([ring.read_as(first, key) for key in "ab"], [0, 1])
        self.assertEqual([ring.read_as(second, key) for key in "ab"], [7, 1])
        self.assertEqual(outcome(ring.read_as, first, "c"), ("UnknownKey", "c"))
        self.assertEqual((ring.word, ring.table()), ("1110", {"a": 7}))
        self.assertEqual(ring.log(), [("a", 0), ("b", 1), ("a", 7), None])
        ring.close_reader(first)
        self.assertEqual((ring.word, ring.log()), ("110", [("b", 1), ("a", 7), None]))
        ring.close_reader(second)
        self.assertEqual(ring.word, "10")

    def test_an_empty_table_is_seen_too(self):
        ring = Ring(5, 2, Round(1), readers=1)
        reader = ring.open_reader()
        ring.put("a", 1)
        self.assertEqual(outcome(ring.read_as, reader, "a"), ("UnknownKey", "a"))

    def test_a_record_that_only_a_reader_needs_is_carried(self):
        ring = filled(5, 2, Round(0, 0, 2), "ab", readers=1)
        reader = ring.open_reader()
        ring.put("a", 7)
        self.assertEqual((ring.last_wait, ring.word), (2, "111"))
        self.assertEqual(ring.log(), [("a", 0), ("b", 1), ("a", 7)])
        ring.put("b", 8, 0)
        self.assertEqual((ring.word, [ring.read_as(reader, key) for key in "ab"]), ("1111", [0, 1]))
        ring.put("b", 9, 0)
        self.assertEqual((ring.word, ring.free), ("11101", 0))
        self.assertEqual(outcome(ring.put, "b", 10, 1), ("BadChoice", 1))
        ring.close_reader(reader)
        self.assertEqual((ring.word, list(ring.table())), ("101", ["a", "b"]))

    def test_the_seen_ones_are_others(self):
        ring = filled(9, 2, Round(0, 0, 9), "ab", readers=1)
        ring.open_reader()
        self.assertEqual(outcome(ring.twin().put, "a", 7, 3), ("BadChoice", 3))
        ring.put("a", 7, 2)
        self.assertEqual(ring.last_wait, 2)


class TestCopies(unittest.TestCase):
    """[30]."""

    def test_a_twin_is_independent(self):
        ring = filled(9, 3, Round(0, 1), "abc", readers=2)
        ring.open_reader()
        twin = ring.twin()
        before = picture_of(ring, KEYS)
        self.assertEqual(picture_of(twin, KEYS), before)
        twin.put("a", 9)
        twin.delete("b")
        self.assertEqual(twin.open_reader(), 1)
        twin.close_reader(0)
        self.assertEqual(picture_of(ring, KEYS), before)
        self.assertEqual((ring.open_reader(), ring.read_as(0, "b")), (1, 1))

    def test_changed_keeps_everything_else(self):
        ring = filled(5, 3, Round(0, 0, 0, 2), "abc", readers=2)
        ring.open_reader()
        ring.put("c", 5)
        ring.close_reader(0)
        ring.open_reader()
        before = picture_of(ring, KEYS)
        for named in [{"places": 8}, {"limit": 4}, {"places": 4, "limit": 4}, {"budgets": Round(7)}, {}]:
            other = ring.changed(**named)
            terms = (named.get("places", 5), named.get("limit", 3), named.get("budgets", ring.budgets).budgets)
            after = picture_of(other, KEYS)
            self.assertEqual(after[0], (*terms, False, 2))
            self.assertEqual(other.free, other.places - len(ring.word))
            self.assertEqual(other.phase, 0 if "budgets" in named else ring.phase)
            self.assertEqual(after[5:] + after[1:2] + after[3:4], before[5:] + before[1:2] + before[3:4])
            self.assertEqual(other.open_readers(), [1])
            other.put("c", 1)
            self.assertEqual(other.open_reader(), 2)
            self.assertEqual(picture_of(ring, KEYS), before)

    def test_the_phase(self):
        ring = Ring(9, 3, Round(0, 0, 1))
        ring.put("a", 1)
        ring.put("a", 1)
        self.assertEqual(ring.changed(places=8, limit=2).phase, 2)
        other = ring.changed(budgets=Round(4, 5))
        self.assertEqual((other.phase, other.done), (0, 2))
        other.put("a", 1)
        self.assertEqual((other.phase, other.done), (1, 3))
        self.assertEqual(ring.changed(budgets=ring.budgets).phase, 0)
        self.assertEqual(ring.twin().phase, 2)

    def test_the_late_order_stays(self):
        ring = filled(5, 3, Round(1), "abc", late=True).changed(places=4, limit=4)
        self.assertTrue(ring.late)
        ring.put("d", 1)
        self.assertEqual(outcome(ring.put, "a", 1), ("Stalled", 4))

    def test_refused_changes(self):
        ring = filled(5, 4, Round(1), "abc")
        before = picture_of(ring, KEYS)
        for named, field in [
            ({"places": 0}, "places"), ({"limit": 0}, "limit"), ({"places": -1, "limit": -1}, "places"),
            ({"places": 2}, "places"), ({"places": 2, "limit": 2}, "places"), ({"places": 2, "limit": 0}, "limit"),
            ({"limit": 2}, "limit"), ({"limit": 6}, "limit"), ({"places": 3}, "limit"),
            ({"places": 3, "limit": 4}, "limit"), ({"places": 9, "limit": 10}, "limit"),
            ({"places": 9, "limit": 2}, "limit"), ({"places": 3, "limit": 3}, None), ({"limit": 5}, None),
            ({"places": 4}, None), ({"places": 9, "limit": 9, "budgets": Round(3)}, None),
            ({"places": 2, "budgets": Round(3)}, "places"), ({"limit": BIG}, "limit"), ({"places": BIG}, None),
        ]:
            with self.subTest(**named):
                self.assertEqual(refused_field(ring.changed, **named), field)
                self.assertEqual(picture_of(ring, KEYS), before)
        self.assertEqual(refused_field(filled(5, 3, Round(1), "abc").changed, places=3), None)
        check_every_mix(self, Ring(5, 4, Round(1)).changed, {}, {
            "places": [0, -1, -BIG], "limit": [0, -1, -BIG], "budgets": NO_ROUNDS,
        }, {"places": 4, "limit": 4, "budgets": Round(1)})

    def test_dead_records_count_for_the_places(self):
        ring = filled(6, 2, Round(0), ["a", "b", "b", "b"])
        self.assertEqual(ring.word, "1001")
        self.assertEqual(refused_field(ring.changed, places=3), "places")
        self.assertEqual(ring.changed(places=4).free, 0)


class TestRefusals(unittest.TestCase):
    """[5], [21]."""

    def test_of_the_constructor(self):
        good = {"places": 3, "limit": 3, "budgets": Round(1)}
        broken = {
            "places": [0, -1, -BIG], "limit": [0, -1, -BIG], "budgets": NO_ROUNDS, "readers": [-1, -BIG],
        }
        check_every_mix(self, Ring, good, broken, {"readers": 2})
        check_every_mix(self, Ring, good, broken, {"late": True, "readers": 0})

    def test_limits_between_arguments_come_after_all_others(self):
        self.assertEqual(refused_field(Ring, 3, 4, Round(1)), "limit")
        self.assertEqual(refused_field(Ring, 3, 4, Round(1), readers=-1), "readers")
        self.assertEqual(refused_field(Ring, 3, 4, Round(1), late=True, readers=1), "limit")
        self.assertEqual(refused_field(Ring, 3, 3, Round(1), late=True, readers=1), "readers")
        self.assertEqual(refused_field(Ring, 0, 0, Round(1), late=True, readers=1), "places")
        self.assertIsNone(refused_field(Ring, 3, 3, Round(1), late=True, readers=0))


def draw_call(draw, ring, model):
    """One drawn call: the same for the ring and for the model."""
    kind = draw.choice(["put"] * 6 + ["delete"] * 2 + ["open", "close", "read", "changed", "twin"])
    key = draw.choice(KEYS if draw.random() < 0.95 else NO_KEYS)
    count = draw.choice([None, None, None, 0, 1, 2, 3, -1, 9])
    reader = draw.choice([-1, *range(model.opened + 1)])
    if kind == "put":
        args = (key, draw.randrange(100), count)
        return ring, model, outcome(ring.put, *args), model_outcome(model.put, *args)
    if kind == "delete":
        return ring, model, outcome(ring.delete, key, count), model_outcome(model.delete, key, count)
    if kind == "open":
        return ring, model, outcome(ring.open_reader), model_outcome(model.open_reader)
    if kind == "close":
        return ring, model, outcome(ring.close_reader, reader), model_outcome(model.close_reader, reader)
    if kind == "read":
        return ring, model, outcome(ring.read_as, reader, key), model_outcome(model.read_as, reader, key)
    if kind == "twin":
        return ring.twin(), model, None, None
    places, limit = draw.choice([None, 0, *range(3, 12)]), draw.choice([None, 0, *range(1, 7)])
    row = draw.choice([None, None, *ROUNDS])
    budgets = None if row is None else Round(*row)
    got = outcome(ring.changed, places=places, limit=limit, budgets=budgets)
    expected = model_outcome(model.changed, places, limit, row)
    if got[0] == "done" and expected[0] == "done":
        return got[1], expected[1], None, None
    return ring, model, got, expected


class TestDrawnPlays(unittest.TestCase):
    """[22] to [31]: whatever is put, deleted, carried, opened, closed and changed."""

    def play(self, seed):
        draw = random.Random(seed)
        places = draw.randrange(1, 10)
        terms = (places, draw.randrange(1, places + 1), draw.choice(ROUNDS))
        late = draw.random() < 0.4
        readers = 0 if late else draw.randrange(5)
        ring = Ring(terms[0], terms[1], Round(*terms[2]), late=late, readers=readers)
        model = PlainRing(*terms, late, readers)
        for turn in range(60):
            ring, model, got, expected = draw_call(draw, ring, model)
            with self.subTest(seed=seed, turn=turn):
                self.assertEqual(got, expected)
                self.assertEqual(picture_of(ring, KEYS), model.picture(KEYS))

    def test_against_the_plain_model(self):
        for seed in range(300):
            self.play(seed)

    def test_the_table_is_what_the_deeds_make(self):
        """[31]"""
        for seed in range(60):
            draw = random.Random(seed)
            ring = Ring(12, 4, Round(1, 2), late=seed % 2 == 1)
            table = {}
            for _ in range(80):
                key, value = draw.choice(KEYS[:4]), draw.randrange(100)
                if key in table and draw.random() < 0.3:
                    ring.delete(key)
                    del table[key]
                else:
                    ring.put(key, value)
                    table[key] = value
                self.assertEqual(ring.table(), table)
                self.assertEqual({each: ring.read(each) for each in table}, table)

    def test_each_put_is_a_step_of_the_word(self):
        """[31]"""
        stepped = 0
        for seed in range(200):
            draw = random.Random(seed)
            late = seed % 2 == 1
            ring = Ring(7, 4, Round(*draw.choice(ROUNDS)), late=late)
            for _ in range(40):
                key = draw.choice(KEYS[:4])
                word, alive = ring.word, list(ring.table())
                index = alive.index(key) if key in alive else None
                done = outcome(ring.put, key, 0, draw.choice([None, None, 0, 1]))[0] == "done"
                if done:
                    stepped += 1
                    self.assertEqual(ring.word, step(word, index, ring.last_wait, 7, late=late))
                elif alive:
                    outcome(ring.delete, draw.choice(alive))
        self.assertGreater(stepped, 2000)

    def test_the_newest_record_has_the_newest_index(self):
        ring = filled(9, 3, Round(0), "abc")
        self.assertEqual(list(ring.table())[newest(ring.word)], "c")


class TestErrorsAreOfTheirClasses(unittest.TestCase):
    def test_unknown_key_is_a_value_error(self):
        with self.assertRaises(UnknownKey) as caught:
            Ring(1, 1, Round(0)).read("a")
        self.assertIsInstance(caught.exception, ValueError)


if __name__ == "__main__":
    unittest.main()
