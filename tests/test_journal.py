"""carrylog.journal: promises [85] to [88], and [3] to [5] for them."""

import copy
import inspect
import random
import unittest
from itertools import product

from carrylog.journal import Observer
from carrylog.ring import Ring
from carrylog.rounds import Round
from tests.outcomes import outcome
from tests.plain_ring import PlainRing, Refused
from tests.refusing import check_every_mix, refused_field

BIG = 10 ** 30
ZERO = [0, -1, -BIG]
NO_ROUNDS = [None, 1, [1], (1, 2)]
ROUNDS = [[0], [1], [2], [3], [0, 1], [2, 0], [3, 0, 1], [1, 2, 3]]
KEYS = ["a", "b", "c", "d"]


def plain_ends(places, limit, row, journal):
    """[85]: (reading, ring after it) for each reading, in ascending order."""
    found = [([], PlainRing(places, limit, row))]
    for key, free in journal:
        longer = []
        for counts, ring in found:
            for count in range(max(row) + 1):
                after = copy.deepcopy(ring)
                try:
                    after.put(key, 0, count)
                except Refused:
                    continue
                if places - len(after.log) == free:
                    longer.append((counts + [count], after))
        found = longer
    return found


def plain_readings(places, limit, row, journal):
    return [counts for counts, _ in plain_ends(places, limit, row, journal)]


def drawn(seed, most_lines=5, most_places=6):
    """Drawn terms and a drawn journal, which may have no reading."""
    draw = random.Random(seed)
    places = draw.randrange(1, most_places + 1)
    limit, row = draw.randrange(1, min(places, 4) + 1), draw.choice(ROUNDS)
    ring, journal = Ring(places, limit, Round(*row)), []
    for _ in range(draw.randrange(most_lines + 1)):
        key = draw.choice(KEYS[:limit + 1])
        for count in draw.choice([[0, 1, 2], [1, 0], [2, 1, 0], [None]]):
            if outcome(ring.put, key, 0, count)[0] == "done":
                journal.append((key, ring.free))
                break
    if journal and draw.random() < 0.4:
        at = draw.randrange(len(journal))
        journal[at] = (draw.choice([journal[at][0], "a", "d"]), draw.randrange(-1, places + 2))
    return (places, limit, row), journal


class TestReadings(unittest.TestCase):
    """[85], [86]."""

    def test_the_example(self):
        observer = Observer(3, 2, Round(1))
        journal = [("a", 2), ("b", 1), ("b", 1)]
        self.assertEqual(list(observer.readings(journal)), [[0, 0, 1], [0, 1, 1]])
        self.assertEqual(observer.count_readings(journal), 2)
        self.assertTrue(observer.fits(journal))
        self.assertIsNone(observer.first_fault(journal))
        self.assertEqual(observer.sure_waits(journal), [0, None, 1])
        self.assertEqual(observer.sure_words(journal), ["11"])
        self.assertEqual((observer.outlook(journal[:2], "a"), observer.outlook(journal[:2], "b")), ([1], [0, 1]))
        self.assertEqual(observer.mends(journal), [])

    def test_the_empty_journal(self):
        observer = Observer(3, 2, Round(1))
        self.assertEqual(list(observer.readings([])), [[]])
        self.assertEqual((observer.count_readings([]), observer.fits([]), observer.first_fault([])), (1, True, None))
        self.assertEqual((observer.sure_waits([]), observer.sure_words([]), observer.mends([])), ([], [""], []))
        self.assertEqual((observer.outlook([], "a"), observer.record([])), ([2], []))

    def test_a_journal_without_a_reading(self):
        observer = Observer(3, 2, Round(1))
        for journal, fault in [
            ([("a", 3)], 0), ([("a", 1)], 0), ([("a", -1)], 0), ([("a", BIG)], 0), ([("a", 2), ("a", 2), ("b", 2)], 2),
            ([("a", 2), ("b", 1), ("c", 0)], 2), ([("a", 2), ("b", 0), ("b", 0)], 1),
            ([("a", 2), ("b", 1), ("a", 9)], 2),
        ]:
            with self.subTest(journal=journal):
                self.assertEqual((list(observer.readings(journal)), observer.count_readings(journal)), ([], 0))
                self.assertIs(observer.fits(journal), False)
                self.assertEqual(observer.first_fault(journal), fault)
                self.assertEqual(observer.sure_waits(journal), [None] * len(journal))
                self.assertEqual((observer.sure_words(journal), observer.outlook(journal, "a")), ([], []))

    def test_a_new_key_beyond_the_limit(self):
        observer = Observer(5, 2, Round(1))
        for free in range(6):
            self.assertEqual(observer.first_fault([("a", 4), ("b", 3), ("c", free)]), 2)
        self.assertEqual(observer.outlook([("a", 4), ("b", 3)], "c"), [])

    def test_a_line_that_all_readings_share(self):
        observer = Observer(4, 3, Round(2))
        journal = [("a", 3), ("b", 2), ("c", 1), ("c", 1)]
        readings = [[0, first, second, 2] for first in range(2) for second in range(3)]
        self.assertEqual(list(observer.readings(journal)), readings)
        self.assertEqual(observer.sure_waits(journal), [0, None, None, 2])
        self.assertEqual(observer.sure_words(journal), ["111"])

    def test_drawn_journals(self):
        with_readings = without = 0
        for seed in range(500):
            terms, journal = drawn(seed)
            observer = Observer(terms[0], terms[1], Round(*terms[2]))
            kept = list(journal)
            found = plain_readings(*terms, journal)
            with self.subTest(seed=seed):
                self.assertEqual(list(observer.readings(journal)), found)
                self.assertEqual(observer.count_readings(journal), len(found))
                self.assertIs(observer.fits(journal), len(found) > 0)
                faults = [at for at in range(len(journal)) if not plain_readings(*terms, journal[:at + 1])]
                self.assertEqual(observer.first_fault(journal), faults[0] if faults else None)
                self.assertEqual(journal, kept)
            with_readings += len(found) > 1
            without += len(found) == 0
        self.assertGreater(with_readings, 50)
        self.assertGreater(without, 50)

    def test_every_short_journal(self):
        for (places, limit, row), keys in product([(2, 2, [1]), (3, 2, [2]), (3, 3, [0, 1])], product("abc", repeat=3)):
            observer, total = Observer(places, limit, Round(*row)), 0
            for frees in product(range(places + 1), repeat=3):
                journal = list(zip(keys, frees))
                found = plain_readings(places, limit, row, journal)
                self.assertEqual(list(observer.readings(journal)), found)
                total += len(found)
            self.assertLessEqual(total, 27)

    def test_many_readings_are_not_listed(self):
        # Twenty puts of keys that nothing is known of but that no place came free.
        observer = Observer(40, 20, Round(3))
        journal = [(f"k{number}", 39 - number) for number in range(20)]
        self.assertEqual(observer.count_readings(journal), 2 * 3 * 4 ** 17)
        self.assertEqual(observer.sure_waits(journal)[0], 0)
        self.assertEqual(observer.sure_words(journal), ["1" * 20])

    def test_the_sizes(self):
        observer = Observer(10, 8, Round(3, 3, 3))
        journal = [(f"k{number}", 9 - number) for number in range(8)]
        found = list(observer.readings(journal))
        self.assertEqual((len(found), observer.count_readings(journal)), (6 * 4 ** 5, 6 * 4 ** 5))
        self.assertEqual(found, sorted(found))
        self.assertEqual((found[0], found[-1]), ([0] * 8, [0, 1, 2, 3, 3, 3, 3, 3]))
        journal[4] = ("k4", 9)
        mends = observer.mends(journal)
        self.assertEqual(mends, [(4, 5)])


class TestWhatIsSure(unittest.TestCase):
    """[87], [88]."""

    def test_drawn_journals(self):
        several = 0
        for seed in range(500, 900):
            terms, journal = drawn(seed, 7, 8)
            observer = Observer(terms[0], terms[1], Round(*terms[2]))
            ends = plain_ends(*terms, journal)
            columns = [{counts[at] for counts, _ in ends} for at in range(len(journal))]
            waits = [list(column)[0] if len(column) == 1 else None for column in columns]
            words = sorted({ring.word() for _, ring in ends}, key=lambda word: (len(word), word))
            with self.subTest(seed=seed):
                self.assertEqual(observer.sure_waits(journal), waits)
                self.assertEqual(observer.sure_words(journal), words)
            several += len(words) > 1
        self.assertGreater(several, 3)

    def test_words_by_hand(self):
        observer = Observer(4, 3, Round(2))
        journal = [("b", 3), ("d", 2), ("a", 1), ("a", 0)]
        self.assertEqual(observer.sure_words(journal), ["1011", "1101"])
        self.assertEqual(observer.sure_words(journal[:3]), ["111"])
        self.assertEqual(Observer(9, 1, Round(0)).sure_words([("a", 8), ("a", 8)]), ["1"])

    def test_outlooks(self):
        several = 0
        for seed in range(900, 1100):
            terms, journal = drawn(seed, 4, 5)
            observer = Observer(terms[0], terms[1], Round(*terms[2]))
            for key in KEYS:
                frees = [free for free in range(-1, terms[0] + 2) if plain_readings(*terms, journal + [(key, free)])]
                with self.subTest(seed=seed, key=key):
                    self.assertEqual(observer.outlook(journal, key), frees)
                several += len(frees) > 1
        self.assertGreater(several, 25)

    def test_mends(self):
        mended = 0
        for seed in range(1100, 1400):
            terms, journal = drawn(seed, 4, 4)
            observer = Observer(terms[0], terms[1], Round(*terms[2]))
            expected = []
            if not plain_readings(*terms, journal):
                for at, free in product(range(len(journal)), range(terms[0] + 1)):
                    changed = journal[:at] + [(journal[at][0], free)] + journal[at + 1:]
                    if free != journal[at][1] and plain_readings(*terms, changed):
                        expected.append((at, free))
            kept = list(journal)
            with self.subTest(seed=seed):
                self.assertEqual(observer.mends(journal), expected)
                self.assertEqual(journal, kept)
            mended += len(expected) > 0
        self.assertGreater(mended, 40)

    def test_mends_by_hand(self):
        observer = Observer(3, 2, Round(1))
        self.assertEqual(observer.mends([("a", 0)]), [(0, 2)])
        self.assertEqual(observer.mends([("a", -5)]), [(0, 2)])
        self.assertEqual(observer.mends([("a", 2), ("b", 2), ("b", 0)]), [(1, 1)])
        self.assertEqual(observer.mends([("a", 2), ("b", 1), ("b", 3)]), [(2, 0), (2, 1)])
        self.assertEqual(observer.mends([("a", 0), ("b", 0)]), [])
        self.assertEqual(observer.mends([("a", 2), ("b", 1), ("c", 0)]), [])
        self.assertEqual(observer.mends([("a", 2)]), [])


class TestRecord(unittest.TestCase):
    """[88]."""

    def test_by_hand(self):
        observer = Observer(3, 2, Round(1))
        self.assertEqual(observer.record([("a", None), ("b", None), ("b", None)]), [("a", 2), ("b", 1), ("b", 1)])
        self.assertEqual(observer.record([("a", 0), ("b", 0), ("b", 0)]), [("a", 2), ("b", 1), ("b", 0)])

    def test_rows_that_are_refused(self):
        observer = Observer(3, 2, Round(1))
        good = [("a", None), ("b", None)]
        for row, expected in [
            (("c", None), ("KeyLimit", 2)), (("b", 2), ("BadChoice", 2)), (("b", -1), ("BadChoice", -1)),
            (("A", None), ("InvalidInput", "key")), (("", 9), ("InvalidInput", "key")), (("c", 9), ("KeyLimit", 2)),
        ]:
            self.assertEqual(outcome(observer.record, good + [row]), expected)
            self.assertEqual(outcome(observer.record, good + [row, ("A", 7)]), expected)
        self.assertEqual(outcome(observer.record, good + [("b", 0), ("b", 0)]), ("Stalled", 3))
        self.assertEqual(outcome(observer.record, good + [("b", 0), ("b", 1)]), ("BadChoice", 1))
        self.assertEqual(observer.record(good), [("a", 2), ("b", 1)])

    def test_what_is_recorded_has_that_reading(self):
        for seed in range(150):
            draw = random.Random(seed)
            places = draw.randrange(1, 11)
            limit, row = draw.randrange(1, places + 1), draw.choice(ROUNDS)
            observer, ring = Observer(places, limit, Round(*row)), Ring(places, limit, Round(*row))
            rows, counts, frees = [], [], []
            for _ in range(8):
                line = (draw.choice(KEYS), draw.choice([None, None, 0, 1]))
                if outcome(ring.put, line[0], 0, line[1])[0] == "done":
                    rows.append(line)
                    counts.append(ring.last_wait)
                    frees.append((line[0], ring.free))
            kept = list(rows)
            self.assertEqual(observer.record(rows), frees)
            self.assertEqual(rows, kept)
            self.assertIn(counts, list(observer.readings(frees)))
            self.assertIn(ring.word, observer.sure_words(frees))


class TestRefusals(unittest.TestCase):
    """[4], [5]."""

    def test_of_the_constructor(self):
        broken = {"places": ZERO, "limit": ZERO, "budgets": NO_ROUNDS}
        check_every_mix(self, Observer, {"places": 3, "limit": 3, "budgets": Round(1)}, broken)
        self.assertEqual(refused_field(Observer, 3, 4, Round(1)), "limit")
        self.assertEqual(refused_field(Observer, 3, 4, None), "budgets")

    def test_readings_is_a_generator(self):
        self.assertTrue(inspect.isgeneratorfunction(Observer.readings))

    def test_results_are_new(self):
        observer = Observer(3, 2, Round(1))
        journal = [("a", 2), ("b", 1), ("b", 1)]
        for counts in observer.readings(journal):
            counts.clear()
        for call in [observer.sure_waits, observer.sure_words, observer.mends]:
            call(journal).append(7)
        observer.outlook(journal, "a").clear()
        observer.record([("a", None)]).clear()
        self.assertEqual(list(observer.readings(journal)), [[0, 0, 1], [0, 1, 1]])
        self.assertEqual((observer.sure_waits(journal), observer.sure_words(journal)), ([0, None, 1], ["11"]))
        self.assertEqual(journal, [("a", 2), ("b", 1), ("b", 1)])


if __name__ == "__main__":
    unittest.main()
