"""carrylog.disk: promises [68] to [77], and [3] to [5] for them."""

import random
import unittest
from itertools import product

from carrylog.disk import Disk
from carrylog.errors import PowerCut
from carrylog.ring import Ring
from carrylog.rounds import Round
from carrylog.sums import ring_goes_on
from tests.outcomes import outcome
from tests.plain_disk import PlainDisk, picture_of
from tests.plain_ring import Refused
from tests.refusing import check_every_mix, refused_field

BIG = 10 ** 30
HUGE = 10 ** 3000
KEYS = ["a", "b", "c", "d", "0", "zz9"]
NO_KEYS = ["", "A", "a b", "a" * 13, "-", "a_", "\n", "a\n", "\u00e4", "0" * 13]
ROUNDS = [[0], [1], [2], [3, 0], [0, 1], [2, 0, 0], [1, 0, 3, 2], [BIG]]
OUTCOMES = ["none", "torn", "landed"]
MINUS, ZERO = [-1, -BIG], [0, -1, -BIG]
NO_ROUNDS = [None, 1, [1], (1, 2)]


def model_outcome(call, *args):
    try:
        return ("done", call(*args))
    except Refused as refusal:
        return refusal.args


def filled(places, limit, budgets, keys):
    """A disk with these keys, put one after the other without carries."""
    disk = Disk(places, limit, budgets)
    for value, key in enumerate(keys):
        disk.put(key, value, 0)
    return disk


def again(disk):
    """The disk recovered from its image with its own terms."""
    return Disk.recover(disk.image(), disk.limit, disk.budgets)


class TestTheDisk(unittest.TestCase):
    """[68] to [71]."""

    def test_it_starts_empty(self):
        disk = Disk(3, 2, Round(1, 2))
        self.assertEqual(picture_of(disk, KEYS), PlainDisk(3, 2, [1, 2]).picture(KEYS))
        self.assertEqual((disk.image(), disk.number, disk.done, disk.pending, disk.off), ([None] * 3, 0, 0, 0, False))
        self.assertEqual((disk.word, disk.free, disk.phase, disk.torn, len(disk), disk.table()), ("", 3, 0, 0, 0, {}))
        self.assertEqual(disk.resume(), 0)
        self.assertEqual(disk.budgets, Round(1, 2))

    def test_the_example(self):
        disk = Disk(4, 2, Round(1))
        self.assertIsNone(disk.put("a", 5))
        self.assertEqual(outcome(disk.put, "b", 6, cut=1, outcome="torn"), ("PowerCut", 1))
        image = [(0, 1, "put", "a", 5), (1, 2, "put", "b", 6), (2, 2, "torn"), None]
        self.assertEqual(disk.image(), image)
        self.assertTrue(disk.off)
        disk = Disk.recover(image, 2, Round(1))
        self.assertEqual((disk.table(), disk.word, disk.pending, disk.torn), ({"a": 5, "b": 6}, "110", 1, 1))
        self.assertEqual(disk.resume(), 1)
        self.assertEqual(disk.image()[3], (3, 2, "copy", "a", 5))
        self.assertEqual((disk.word, disk.pending, list(disk.table())), ("101", 0, ["b", "a"]))

    def test_the_example_without_a_cut(self):
        disk = Disk(4, 2, Round(1))
        disk.put("a", 5)
        disk.put("b", 6)
        self.assertEqual(disk.image(), [(0, 1, "put", "a", 5), (1, 2, "put", "b", 6), (2, 2, "copy", "a", 5), None])
        self.assertEqual((list(disk.table()), disk.word, disk.free, disk.number), (["b", "a"], "11", 2, 3))

    def test_cells(self):
        disk = Disk(3, 2, Round(0))
        disk.put("a", -7)
        disk.put("a", 8)
        disk.delete("a")
        self.assertEqual(disk.image(), [(0, 1, "put", "a", -7), (1, 2, "put", "a", 8), (2, 3, "delete", "a", 0)])
        self.assertEqual((disk.word, disk.free, len(disk), disk.number), ("", 3, 0, 3))
        disk.put("b", 1)
        self.assertEqual(disk.image()[0], (3, 4, "put", "b", 1))

    def test_the_word_is_normal(self):
        disk = filled(5, 3, Round(0), "abc")
        disk.delete("b", 0)
        self.assertEqual((disk.word, disk.torn), ("1010", 0))
        disk.put("a", 9, 0)
        self.assertEqual((disk.word, list(disk.table())), ("101", ["c", "a"]))

    def test_one_place(self):
        disk = Disk(1, 1, Round(9))
        disk.put("a", 1)
        self.assertEqual(outcome(disk.put, "a", 2), ("Stalled", 1))
        self.assertEqual(outcome(disk.delete, "a"), ("Stalled", 1))
        self.assertEqual(disk.image(), [(0, 1, "put", "a", 1)])
        self.assertEqual((again(disk).word, again(disk).pending), ("1", 0))
        for result, cell in [("none", None), ("torn", (0, 0, "torn")), ("landed", (0, 1, "put", "a", 1))]:
            disk = Disk(1, 1, Round(9))
            self.assertEqual(outcome(disk.put, "a", 1, cut=0, outcome=result), ("PowerCut", int(result == "landed")))
            self.assertEqual(disk.image(), [cell])
            disk = Disk.recover([cell], 1, Round(9))
            self.assertEqual((disk.free, disk.torn, disk.done), (0 if result == "landed" else 1, 0, result == "landed"))
            self.assertEqual(outcome(disk.put, "a", 2)[0], "Stalled" if result == "landed" else "done")

    def test_any_string_may_be_asked_for(self):
        disk = filled(5, 3, Round(1), "ab")
        for key in NO_KEYS + ["c"]:
            self.assertNotIn(key, disk)
            self.assertEqual(outcome(disk.read, key), ("UnknownKey", key))
            self.assertEqual(outcome(disk.delete, key), ("UnknownKey", key))
            self.assertEqual(outcome(disk.delete, key, HUGE, cut=0), ("UnknownKey", key))
        self.assertEqual((disk.read("a"), disk.read("b"), "a" in disk), (0, 1, True))

    def test_results_are_new(self):
        disk = filled(5, 3, Round(1), "ab")
        before = picture_of(disk, KEYS)
        disk.image().clear()
        disk.image()[0] = None
        disk.table().clear()
        disk.budgets.budgets.clear()
        self.assertEqual(picture_of(disk, KEYS), before)
        image = disk.image()
        other = Disk.recover(image, 3, Round(1))
        image[0] = None
        self.assertEqual(picture_of(other, KEYS), before)
        other.put("a", 9)
        self.assertEqual(image, [None] + disk.image()[1:])
        self.assertEqual(picture_of(disk, KEYS), before)

    def test_the_word_goes_as_in_a_late_ring(self):
        """[71]"""
        for seed in range(80):
            draw = random.Random(seed)
            places = draw.randrange(1, 9)
            limit, row = draw.randrange(1, places + 1), draw.choice(ROUNDS)
            disk, ring = Disk(places, limit, Round(*row)), Ring(places, limit, Round(*row), late=True)
            for _ in range(40):
                key, count = draw.choice(KEYS), draw.choice([None, None, 0, 1, 2, -1])
                if draw.random() < 0.7:
                    args = (key, draw.randrange(100), count)
                    self.assertEqual(outcome(disk.put, *args), outcome(ring.put, *args))
                else:
                    self.assertEqual(outcome(disk.delete, key, count), outcome(ring.delete, key, count))
                seen = (disk.word, disk.free, disk.done, disk.phase)
                self.assertEqual(seen, (ring.word, ring.free, ring.done, ring.phase))
                self.assertEqual(list(disk.table().items()), list(ring.table().items()))

    def test_the_sizes(self):
        disk = Disk(64, 42, Round(2, BIG, 0))
        for turn in range(5):
            for number in range(42):
                disk.put(f"k{number}", turn)
        self.assertEqual(disk.table(), {f"k{number}": 4 for number in range(42)})
        self.assertEqual(disk.done, 210)
        self.assertEqual(picture_of(again(disk), KEYS), picture_of(disk, KEYS))


class TestErrors(unittest.TestCase):
    """[71], [72]: which error, and which one first; nothing is written."""

    def check(self, disk, expected, call, *args, **named):
        before = picture_of(disk, KEYS)
        for more in [{}, {"cut": 0, "outcome": "torn"}, {"cut": 1, "outcome": "landed"}]:
            self.assertEqual(outcome(call, *args, **{**more, **named}), expected)
            self.assertEqual(picture_of(disk, KEYS), before)

    def test_bad_counts(self):
        disk = filled(9, 4, Round(0, 0, 0, 2), "abc")
        for count in [-1, -HUGE, 3, BIG, HUGE]:
            self.check(disk, ("BadChoice", count), disk.put, "a", 9, count)
            self.check(disk, ("BadChoice", count), disk.put, "d", 9, count)
            self.check(disk, ("BadChoice", count), disk.delete, "a", count)
        disk = filled(9, 4, Round(0, 0, 0, 9), "abc")
        self.check(disk, ("BadChoice", 3), disk.put, "a", 9, 3)
        self.check(disk, ("BadChoice", 4), disk.put, "d", 9, 4)
        self.check(disk, ("BadChoice", 3), disk.delete, "a", 3)
        disk.delete("a", 2)
        self.assertEqual(disk.word, "11")

    def test_no_place_for_a_copy(self):
        disk = filled(4, 3, Round(9), "abc")
        self.check(disk, ("BadChoice", 1), disk.put, "b", 9, 1)
        self.check(disk, ("BadChoice", 1), disk.delete, "b", 1)
        self.assertEqual(outcome(disk.put, "b", 9), ("done", None))
        self.assertEqual((disk.word, disk.pending, disk.resume()), ("1011", 2, 0))
        disk = filled(4, 3, Round(9), "abc")
        disk.put("a", 9, 2)
        self.assertEqual(list(disk.table()), ["a", "b", "c"])

    def test_stalled_comes_before_bad_counts(self):
        disk = filled(3, 3, Round(9), "abc")
        for count in [None, -1, 0, 1, 99]:
            self.check(disk, ("Stalled", 3), disk.put, "b", 9, count)
            self.check(disk, ("Stalled", 3), disk.delete, "b", count)

    def test_key_limit_and_unknown_key_come_before_stalled(self):
        disk = filled(2, 2, Round(1), "ab")
        for count in [None, -1, 99]:
            self.check(disk, ("KeyLimit", 2), disk.put, "c", 9, count)
            self.check(disk, ("UnknownKey", "c"), disk.delete, "c", count)

    def test_the_limits_come_first(self):
        disk = filled(2, 2, Round(1), "ab")
        for key in NO_KEYS:
            self.check(disk, ("InvalidInput", "key"), disk.put, key, 9, -1)
            self.check(disk, ("InvalidInput", "key"), disk.put, key, 9, cut=-1, outcome="x")
        self.check(disk, ("InvalidInput", "cut"), disk.put, "c", 9, -1, cut=-1, outcome="x")
        self.check(disk, ("InvalidInput", "outcome"), disk.put, "c", 9, -1, outcome="x")
        self.check(disk, ("InvalidInput", "outcome"), disk.put, "a", 9, cut=None, outcome="None")
        self.check(disk, ("InvalidInput", "cut"), disk.delete, "c", -1, cut=-BIG, outcome="")
        self.check(disk, ("InvalidInput", "outcome"), disk.delete, "c", -1, outcome="")
        self.check(disk, ("InvalidInput", "cut"), disk.resume, -1, cut=-1, outcome="x")
        self.check(disk, ("InvalidInput", "outcome"), disk.resume, -1, outcome="x")

    def test_every_mix_of_broken_limits(self):
        cuts, outcomes = [-1, -HUGE], ["", "None", "tornn"]

        def put(key, value, count, cut, outcome):
            filled(3, 3, Round(1), "a").put(key, value, count, cut=cut, outcome=outcome)

        def delete(key, count, cut, outcome):
            filled(3, 3, Round(1), "a").delete(key, count, cut=cut, outcome=outcome)

        def resume(count, cut, outcome):
            filled(3, 3, Round(1), "a").resume(count, cut=cut, outcome=outcome)

        broken = {"cut": cuts, "outcome": outcomes}
        good = {"key": "a", "value": 1, "count": None, "cut": None, "outcome": "none"}
        check_every_mix(self, put, good, {"key": NO_KEYS, **broken})
        check_every_mix(self, delete, {"key": "a", "count": None, "cut": 5, "outcome": "torn"}, broken)
        check_every_mix(self, resume, {"count": 0, "cut": HUGE, "outcome": "landed"}, broken)

    def test_of_the_constructor(self):
        broken = {"places": ZERO, "limit": ZERO, "budgets": NO_ROUNDS}
        check_every_mix(self, Disk, {"places": 3, "limit": 3, "budgets": Round(1)}, broken)
        self.assertEqual(refused_field(Disk, 3, 4, Round(1)), "limit")
        self.assertEqual(refused_field(Disk, 3, 4, None), "budgets")

    def test_of_recover(self):
        good = {"image": [None, None, None], "limit": 3, "budgets": Round(1)}
        broken = {"image": [[]], "limit": ZERO, "budgets": NO_ROUNDS}
        check_every_mix(self, Disk.recover, good, broken)
        self.assertEqual(refused_field(Disk.recover, [None] * 3, 4, Round(1)), "limit")
        self.assertEqual(refused_field(Disk.recover, [None] * 3, 4, None), "budgets")
        self.assertEqual(refused_field(Disk.recover, [], 1, Round(1)), "image")
        # The limits come before the cells.
        wrong = [(1, 1, "put", "a", 1), None]
        self.assertEqual(refused_field(Disk.recover, wrong, 3, Round(1)), "limit")
        self.assertEqual(outcome(Disk.recover, wrong, 2, Round(1)), ("BadImage", 0))


class TestCuts(unittest.TestCase):
    """[72], [73]."""

    def test_at_each_write_with_each_outcome(self):
        own, first, second = (3, 4, "put", "d", 9), (4, 4, "copy", "a", 0), (5, 4, "copy", "b", 1)
        for cut, result in product(range(3), OUTCOMES):
            disk = filled(8, 4, Round(0, 0, 0, 2), "abc")
            cells = disk.image()
            for place, record in [(3, own), (4, first), (5, second)][:cut + 1]:
                cells[place] = record
            if result == "none":
                cells[3 + cut] = None
            if result == "torn":
                cells[3 + cut] = (3 + cut, 3 if cut == 0 else 4, "torn")
            with self.subTest(cut=cut, outcome=result):
                landed = cut + (result == "landed")
                self.assertEqual(outcome(disk.put, "d", 9, cut=cut, outcome=result), ("PowerCut", landed))
                self.assertEqual(disk.image(), cells)

    def test_a_tombstone_that_is_cut(self):
        for result, table, cell in [("none", {"a": 0, "b": 1}, None), ("torn", {"a": 0, "b": 1}, (2, 2, "torn")),
                                    ("landed", {"b": 1}, (2, 3, "delete", "a", 0))]:
            disk = filled(4, 2, Round(1), "ab")
            self.assertEqual(outcome(disk.delete, "a", cut=0, outcome=result), ("PowerCut", int(result == "landed")))
            self.assertEqual(disk.image()[2], cell)
            disk = Disk.recover(disk.image(), 2, Round(1))
            self.assertEqual((disk.table(), disk.done), (table, 3 if result == "landed" else 2))

    def test_a_cut_behind_the_last_write_has_no_effect(self):
        for cut, result in product([3, 4, BIG, HUGE], OUTCOMES):
            disk, other = filled(8, 4, Round(0, 0, 0, 2), "abc"), filled(8, 4, Round(0, 0, 0, 2), "abc")
            self.assertIsNone(disk.put("d", 9, cut=cut, outcome=result))
            other.put("d", 9)
            self.assertEqual(picture_of(disk, KEYS), picture_of(other, KEYS))
        disk = filled(8, 4, Round(0, 0, 0, 2), "abc")
        self.assertIsNone(disk.put("d", 9, 0, cut=1))
        self.assertEqual(disk.resume(1, cut=1, outcome="torn"), 1)
        self.assertEqual(disk.resume(0, cut=0, outcome="torn"), 0)
        self.assertEqual(outcome(disk.resume, cut=0, outcome="landed"), ("PowerCut", 1))

    def test_a_cut_with_a_given_count(self):
        disk = filled(8, 4, Round(0, 0, 0, 2), "abc")
        self.assertEqual(outcome(disk.put, "d", 9, 1, cut=1, outcome="landed"), ("PowerCut", 2))
        disk = again_on(disk, 4, Round(0, 0, 0, 2))
        self.assertEqual((disk.pending, disk.word), (1, "1111"))

    def test_without_power(self):
        calls = [
            lambda disk: disk.places, lambda disk: disk.limit, lambda disk: disk.budgets, lambda disk: disk.word,
            lambda disk: disk.free, lambda disk: disk.done, lambda disk: disk.phase, lambda disk: disk.torn,
            lambda disk: disk.number, lambda disk: disk.pending, lambda disk: len(disk), lambda disk: "a" in disk,
            lambda disk: disk.read("a"), lambda disk: disk.read("x"), lambda disk: disk.table(),
            lambda disk: disk.put("a", 1), lambda disk: disk.put("A", 1, cut=-1), lambda disk: disk.put("x", 1),
            lambda disk: disk.put("a", 1, -1, outcome="x"), lambda disk: disk.delete("a"),
            lambda disk: disk.delete("x", cut=-1), lambda disk: disk.resume(), lambda disk: disk.resume(-1),
            lambda disk: disk.resume(0, cut=-1, outcome="x"), lambda disk: disk.put("a", 1, cut=0, outcome="landed"),
        ]
        for result in OUTCOMES:
            disk = filled(4, 2, Round(1), "ab")
            outcome(disk.put, "b", 9, cut=0, outcome=result)
            image = disk.image()
            for at, call in enumerate(calls):
                with self.subTest(call=at):
                    self.assertEqual(outcome(call, disk), ("PoweredOff", None))
                    self.assertIs(disk.off, True)
                    self.assertEqual(disk.image(), image)
            disk.image().clear()
            self.assertEqual(disk.image(), image)

    def test_the_power_stays_on_after_other_errors(self):
        disk = filled(2, 2, Round(1), "ab")
        for call in [(disk.put, "c", 1), (disk.put, "a", 1), (disk.resume, 1), (disk.read, "x")]:
            self.assertNotEqual(outcome(*call)[0], "done")
            self.assertIs(disk.off, False)


def again_on(disk, limit, budgets):
    return Disk.recover(disk.image(), limit, budgets)


class TestRecover(unittest.TestCase):
    """[74]."""

    def test_an_image_that_was_never_written(self):
        for places in [1, 2, 5]:
            disk = Disk.recover([None] * places, 1, Round(2))
            self.assertEqual(picture_of(disk, KEYS), picture_of(Disk(places, 1, Round(2)), KEYS))

    def test_the_living_record_has_the_greatest_number(self):
        image = [(4, 4, "copy", "b", 7), (5, 5, "delete", "c", 0), (2, 3, "put", "c", 9), (3, 4, "put", "a", 1)]
        disk = Disk.recover(image, 3, Round(1, 2))
        self.assertEqual((list(disk.table().items()), disk.word), ([("a", 1), ("b", 7)], "110"))
        self.assertEqual((disk.done, disk.phase, disk.number, disk.free, disk.limit), (5, 1, 6, 1, 3))

    def test_other_terms(self):
        disk = filled(6, 2, Round(1), "ab")
        disk.put("a", 5)
        other = Disk.recover(disk.image(), 5, Round(0, 3, 7, 0))
        self.assertEqual((other.limit, other.budgets, other.phase, other.places), (5, Round(0, 3, 7, 0), 3, 6))
        self.assertEqual(other.pending, 0)
        self.assertEqual(Disk.recover(disk.image(), 2, Round(0)).pending, 0)
        self.assertEqual(Disk.recover(disk.image(), 2, Round(0)).phase, 0)

    def test_cells_with_a_wrong_number(self):
        image = filled(4, 2, Round(0), "abab").image()
        for at in range(4):
            cells = list(image)
            for number in [at + 1, at - 1 + 4, at + 4 * 5 + 2]:
                cells[at] = (number, *image[at][1:])
                self.assertEqual(outcome(Disk.recover, cells, 2, Round(0)), ("BadImage", at))
        cells = [image[0], image[2], image[1], image[3]]
        self.assertEqual(outcome(Disk.recover, cells, 2, Round(0)), ("BadImage", 1))
        cells = [(4, 5, "torn"), image[2], None, (2, 5, "torn")]
        self.assertEqual(outcome(Disk.recover, cells, 2, Round(0)), ("BadImage", 1))

    def test_cells_that_lack_their_number(self):
        image = filled(4, 2, Round(0), "ababa").image()
        self.assertEqual(image[0][0], 4)
        for at in [1, 2, 3]:
            cells = list(image)
            cells[at] = None
            # Without the cell with the greatest number the one before is the greatest.
            self.assertEqual(outcome(Disk.recover, cells, 2, Round(0)), ("BadImage", at))
        cells = [None] + image[1:]
        self.assertEqual(outcome(Disk.recover, cells, 2, Round(0)), ("BadImage", 0))
        self.assertEqual(outcome(Disk.recover, [image[0], None, None, image[3]], 2, Round(0)), ("BadImage", 1))
        older = [(0, 1, "put", "a", 0)] + image[1:]
        self.assertEqual(outcome(Disk.recover, older, 2, Round(0))[0], "done")
        newer = image[:2] + [(6, 6, "put", "a", 0)] + image[3:]
        self.assertEqual(outcome(Disk.recover, newer, 2, Round(0)), ("BadImage", 1))
        newer = image[:2] + [(10, 6, "put", "a", 0)] + image[3:]
        self.assertEqual(outcome(Disk.recover, newer, 2, Round(0)), ("BadImage", 0))

    def test_a_gap_in_an_image_that_is_not_full(self):
        image = filled(6, 3, Round(0), "abc").image()
        for at in range(2):
            cells = image[:at] + [None] + image[at + 1:]
            self.assertEqual(outcome(Disk.recover, cells, 3, Round(0)), ("BadImage", at))
        self.assertEqual(outcome(Disk.recover, image[:2] + [None] * 4, 3, Round(0))[0], "done")
        # A wrong remainder is told before a gap, whatever its index.
        cells = [None, image[1], image[2], None, None, (6, 3, "torn")]
        self.assertEqual(outcome(Disk.recover, cells, 3, Round(0)), ("BadImage", 5))
        cells = [image[0], None, image[2], None, None, (5, 3, "torn")]
        self.assertEqual(outcome(Disk.recover, cells, 3, Round(0)), ("BadImage", 1))

    def test_recovering_twice(self):
        disk = filled(4, 2, Round(1), "ab")
        outcome(disk.put, "a", 9, cut=1, outcome="torn")
        once = Disk.recover(disk.image(), 2, Round(1))
        self.assertEqual(picture_of(again(once), KEYS), picture_of(once, KEYS))
        self.assertEqual(once.image(), disk.image())
        self.assertIs(once.off, False)

    def test_off_a_disk_without_power(self):
        disk = filled(4, 2, Round(1), "ab")
        outcome(disk.put, "a", 9, cut=0)
        self.assertEqual(disk.recover(disk.image(), 2, Round(1)).table(), {"a": 0, "b": 1})


class TestPending(unittest.TestCase):
    """[75]."""

    def test_after_a_put_and_after_a_delete(self):
        disk = filled(9, 4, Round(0, 0, 0, 2, 9), "abc")
        self.assertEqual(disk.pending, 0)
        disk.put("d", 1, 0)
        self.assertEqual((disk.pending, disk.resume(1), disk.pending, disk.resume(), disk.pending), (2, 1, 1, 1, 0))
        disk.delete("a", 1)
        # Three keys live, and all of them are others of a tombstone.
        self.assertEqual((disk.pending, disk.resume(0), disk.resume(2), disk.pending), (2, 0, 2, 0))

    def test_the_record_of_the_put_is_no_other(self):
        disk = filled(9, 3, Round(0, 0, 9), "ab")
        disk.put("b", 1, 0)
        self.assertEqual(disk.pending, 1)
        disk = filled(9, 3, Round(0, 0, 9), "ab")
        disk.delete("b", 0)
        self.assertEqual(disk.pending, 1)
        disk = filled(9, 3, Round(0, 9), "a")
        disk.delete("a")
        self.assertEqual((disk.pending, disk.resume()), (0, 0))

    def test_with_another_round(self):
        disk = filled(9, 4, Round(9), "abcd")
        image = disk.image()
        self.assertEqual([Disk.recover(image, 4, Round(budget)).pending for budget in range(6)], [0, 1, 2, 3, 3, 3])
        self.assertEqual(Disk.recover(image, 4, Round(5, 5, 5, 1)).pending, 1)
        self.assertEqual(Disk.recover(image, 4, Round(5, 0)).pending, 0)
        disk.resume(2)
        image = disk.image()
        self.assertEqual([Disk.recover(image, 4, Round(budget)).pending for budget in range(6)], [0, 0, 0, 1, 1, 1])

    def test_refused_counts(self):
        disk = filled(6, 4, Round(0, 0, 0, 2), "abcd")
        self.assertEqual(disk.pending, 2)
        before = picture_of(disk, KEYS)
        for count in [-1, 3, HUGE, -HUGE]:
            for named in [{}, {"cut": 0}, {"cut": 5, "outcome": "torn"}, {"cut": 0, "outcome": "landed"}]:
                self.assertEqual(outcome(disk.resume, count, **named), ("BadChoice", count))
                self.assertEqual(picture_of(disk, KEYS), before)
        full = filled(4, 4, Round(0, 0, 0, 2), "abcd")
        self.assertEqual(full.pending, 2)
        self.assertEqual(outcome(full.resume, 1, cut=0), ("BadChoice", 1))
        self.assertEqual((outcome(full.resume, 0, cut=0), outcome(full.resume, cut=0)), (("done", 0), ("done", 0)))

    def test_a_torn_own_record_leaves_it_as_it_was(self):
        disk = filled(9, 4, Round(0, 0, 2, 0), "abc")
        self.assertEqual(disk.pending, 2)
        outcome(disk.put, "a", 9, cut=0, outcome="torn")
        disk = Disk.recover(disk.image(), 4, Round(0, 0, 2, 0))
        self.assertEqual((disk.pending, disk.done, disk.torn, disk.word), (2, 3, 1, "1110"))
        self.assertEqual((disk.resume(), disk.word), (2, "1011"))

    def test_a_cut_within_resume(self):
        for cut, result in product(range(2), OUTCOMES):
            disk = filled(9, 4, Round(0, 0, 0, 2), "abcd")
            self.assertEqual(outcome(disk.resume, cut=cut, outcome=result), ("PowerCut", cut + (result == "landed")))
            disk = Disk.recover(disk.image(), 4, Round(0, 0, 0, 2))
            left = 2 - cut - (result == "landed")
            self.assertEqual((disk.pending, disk.torn), (left, int(result == "torn")))
            self.assertEqual(disk.resume(), left)
            self.assertEqual(len(disk), 4)


class TestDrawnPlays(unittest.TestCase):
    """[68] to [76] against a model that never looks into its cells."""

    def test_against_the_plain_model(self):
        cuts = 0
        for seed in range(400):
            cuts += self.play(seed)
        self.assertGreater(cuts, 700)

    def play(self, seed):
        draw = random.Random(seed)
        places = draw.randrange(1, 9)
        limit, row = draw.randrange(1, places + 1), draw.choice(ROUNDS)
        disk, model = Disk(places, limit, Round(*row)), PlainDisk(places, limit, row)
        cuts = 0
        for turn in range(40):
            with self.subTest(seed=seed, turn=turn):
                self.assertEqual(*self.call(draw, disk, model))
                self.assertEqual(disk.off, model.off)
                self.assertEqual(disk.image(), model.cells)
                if disk.off:
                    cuts += 1
                    self.assertEqual(outcome(disk.resume), ("PoweredOff", None))
                    if draw.random() < 0.2:
                        limit, row = draw.randrange(limit, places + 1), draw.choice(ROUNDS)
                    disk = Disk.recover(disk.image(), limit, Round(*row))
                    model = model.recovered(limit, row)
                self.assertEqual(picture_of(disk, KEYS), model.picture(KEYS))
                self.assertEqual(picture_of(again(disk), KEYS), model.picture(KEYS))
        return cuts

    def call(self, draw, disk, model):
        key = draw.choice(KEYS if draw.random() < 0.95 else NO_KEYS)
        count = draw.choice([None, None, None, None, 0, 1, 2, -1])
        cut = draw.choice([None, None, None, 0, 0, 1, 2, 3, -1])
        result = draw.choice(OUTCOMES * 5 + ["x"])
        kind = draw.choice(["put", "put", "put", "delete", "resume"])
        if kind == "put":
            args = (key, draw.randrange(100), count)
            return (outcome(disk.put, *args, cut=cut, outcome=result), model_outcome(model.put, *args, cut, result))
        if kind == "delete":
            return (outcome(disk.delete, key, count, cut=cut, outcome=result),
                    model_outcome(model.delete, key, count, cut, result))
        return outcome(disk.resume, count, cut=cut, outcome=result), model_outcome(model.resume, count, cut, result)


class TestACutLosesNothing(unittest.TestCase):
    """[76]."""

    def test_the_table_is_that_of_the_landed_deeds(self):
        for seed in range(120):
            draw = random.Random(seed)
            places = draw.randrange(2, 9)
            limit, budgets = draw.randrange(1, places + 1), Round(*draw.choice(ROUNDS))
            disk, table = Disk(places, limit, budgets), {}
            for _ in range(40):
                key, value = draw.choice(KEYS), draw.randrange(1000)
                is_delete = key in table and draw.random() < 0.3
                deed = (disk.delete, key) if is_delete else (disk.put, key, value)
                done = disk.done
                came = outcome(*deed, cut=draw.choice([None, 0, 1, 2]), outcome=draw.choice(OUTCOMES))
                if disk.off:
                    disk = Disk.recover(disk.image(), limit, budgets)
                    self.assertEqual(disk.done - done, min(came[1], 1))
                if disk.done > done:
                    table.pop(key, None)
                    if not is_delete:
                        table[key] = value
                self.assertEqual(disk.table(), table)

    def test_resumed_disks_have_the_same_cells(self):
        cuts = 0
        for seed in range(150):
            draw = random.Random(seed)
            places = draw.randrange(2, 10)
            limit, budgets = draw.randrange(1, places + 1), Round(*draw.choice(ROUNDS))
            disk, whole = Disk(places, limit, budgets), Disk(places, limit, budgets)
            for _ in range(25):
                key, value = draw.choice(KEYS), draw.randrange(1000)
                name = "delete" if key in whole and draw.random() < 0.3 else "put"
                args = (key,) if name == "delete" else (key, value)
                before = outcome(getattr(whole, name), *args)
                if before[0] != "done":
                    self.assertEqual(outcome(getattr(disk, name), *args), before)
                    continue
                disk, many = self.with_cuts(draw, disk, name, args, limit, budgets)
                cuts += many
                self.assertEqual(picture_of(disk, KEYS), picture_of(whole, KEYS))
        self.assertGreater(cuts, 1000)

    def with_cuts(self, draw, disk, name, args, limit, budgets):
        """Do a greedy deed with any number of cuts, none of them torn."""
        done, cuts = disk.done, 0
        while disk.done == done or (cuts > 0 and disk.pending > 0 and disk.free > 0):
            call = (getattr(disk, name), *args) if disk.done == done else (disk.resume,)
            cut = draw.choice([None, 0, 0, 1, 1, 2, 3])
            came = outcome(*call, cut=cut, outcome=draw.choice(["none", "landed"]))
            self.assertIn(came[0], ["done", "PowerCut"])
            if came[0] == "PowerCut":
                cuts += 1
                disk = Disk.recover(disk.image(), limit, budgets)
        return disk, cuts


class TestATornCellCostsOnePlace(unittest.TestCase):
    """[77]."""

    def test_no_stall_if_the_rule_holds(self):
        tears_met = played = 0
        for seed in range(300):
            draw = random.Random(seed)
            places, tears = draw.randrange(2, 12), draw.randrange(4)
            limit, row = draw.randrange(1, min(places, 6) + 1), draw.choice(ROUNDS)
            if not ring_goes_on(places, limit, Round(*row), late=True, tears=tears):
                continue
            played += 1
            tears_met += self.play(draw, Disk(places, limit, Round(*row)), tears)
        self.assertGreater(played, 60)
        self.assertGreater(tears_met, 500)

    def play(self, draw, disk, tears):
        limit, budgets = disk.limit, disk.budgets
        met = 0
        for _ in range(60):
            alive = list(disk.table())
            key = draw.choice(KEYS[:limit]) if len(alive) < limit or draw.random() < 0.4 else alive[-1]
            cut, result = draw.choice([None, 0, 0, 1, 2]), draw.choice(OUTCOMES + ["torn"])
            if result == "torn" and disk.torn >= tears:
                result = "none"
            call = (disk.delete, key) if key in disk and draw.random() < 0.15 else (disk.put, key, 1)
            came = outcome(*call, cut=cut, outcome=result)
            self.assertIn(came[0], ["done", "PowerCut"])
            while disk.off:
                met += result == "torn"
                disk = Disk.recover(disk.image(), limit, budgets)
                self.assertLessEqual(disk.torn, tears)
                result = draw.choice(OUTCOMES) if disk.torn < tears else "landed"
                outcome(disk.resume, cut=draw.choice([None, 0, 1]), outcome=result)
        return met

    def test_every_way_of_carrying_is_stalled_if_the_rule_fails(self):
        checked = 0
        for places, row, tears in product(range(1, 6), [[0], [1], [2], [0, 1], [2, 0]], range(3)):
            for limit in range(1, min(places, 3) + 1):
                if not ring_goes_on(places, limit, Round(*row), late=True, tears=tears):
                    for disk in self.standings(places, limit, Round(*row)):
                        bound = max(1, places - tears - len(disk) + len(row) - 1)
                        with self.subTest(places=places, limit=limit, row=row, tears=tears, word=disk.word):
                            for start in self.resumed(disk):
                                self.assertTrue(self.stalls(start, tears, tears == 0, bound))
                                checked += 1
        self.assertGreater(checked, 100)

    def standings(self, places, limit, budgets):
        """A few disks with these terms, without torn cells."""
        found = {}
        for seed in range(6):
            draw = random.Random(seed)
            disk = Disk(places, limit, budgets)
            for _ in range(draw.randrange(7)):
                outcome(disk.put, draw.choice(KEYS[:limit]), 0, draw.choice([None, 0, 1]))
            found[disk.word, disk.phase, disk.pending] = disk
        return found.values()

    def stalls(self, disk, tears, torn, left):
        """True if the newest play, with its torn writes once, stalls every keeper after at most `left` puts."""
        if not torn and self.stalls_torn(disk, tears, left):
            return True
        key = self.newest_key(disk)
        if outcome(copied(disk).put, key, 0, 0)[0] == "Stalled":
            return True
        if left == 0:
            return False
        return all(self.stalls(after, tears, torn, left - 1) for after in self.after(disk, key))

    def stalls_torn(self, disk, tears, left):
        """The same if the next put is torn so often; the keeper may carry after each cut."""
        if tears == 0:
            return self.stalls(disk, 0, True, left)
        if disk.free == 0:
            return True
        trial = copied(disk)
        outcome(trial.put, self.newest_key(disk), 0, cut=0, outcome="torn")
        trial = Disk.recover(trial.image(), disk.limit, disk.budgets)
        return all(self.stalls_torn(after, tears - 1, left) for after in self.resumed(trial))

    def resumed(self, disk):
        found = []
        for count in range(disk.pending + 1):
            trial = copied(disk)
            if outcome(trial.resume, count)[0] == "done":
                found.append(trial)
        return found

    def after(self, disk, key):
        found = []
        for count in range(disk.limit + 1):
            trial = copied(disk)
            if outcome(trial.put, key, 0, count)[0] == "done":
                found.append(trial)
        return found

    def newest_key(self, disk):
        if len(disk) < disk.limit:
            return [key for key in KEYS if key not in disk][0]
        return list(disk.table())[-1]


def copied(disk):
    return Disk.recover(disk.image(), disk.limit, disk.budgets)


class TestPowerCut(unittest.TestCase):
    def test_it_is_raised_by_each_call(self):
        for name, args in [("put", ("a", 1)), ("delete", ("a",)), ("resume", ())]:
            disk = filled(6, 3, Round(0, 0, 1), "abc")
            with self.assertRaises(PowerCut) as caught:
                getattr(disk, name)(*args, cut=0)
            self.assertEqual(caught.exception.landed, 0)


if __name__ == "__main__":
    unittest.main()
