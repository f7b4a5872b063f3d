"""carrylog.rounds: promises [3] to [8]."""

import unittest
from itertools import product

from carrylog.errors import InvalidInput, StoreError
from carrylog.rounds import Round
from tests.refusing import check_every_mix, refused_field

BIG = 10 ** 30
NO_BUDGETS = [True, False, None, "1", 1.0, b"1", (1,), [1], {}, Round(1)]


def small_rounds():
    """Every round of one to four budgets from 0 to 2."""
    return [Round(*row) for many in range(1, 5) for row in product(range(3), repeat=many)]


def plain_total(budgets, start, count):
    return sum(budgets[t % len(budgets)] for t in range(start, start + count))


class TestTheRoundItself(unittest.TestCase):
    """[3] to [7]: what a Round is and what it refuses."""

    def test_budgets_and_length(self):
        self.assertEqual(Round(2, 0, 0).budgets, [2, 0, 0])
        self.assertIsInstance(Round(2).budgets, list)
        self.assertEqual([len(Round(*[1] * many)) for many in range(1, 13)], list(range(1, 13)))
        self.assertEqual(Round(0, 10 ** 30).budgets, [0, BIG])

    def test_most(self):
        self.assertEqual(Round.MOST, 12)
        self.assertEqual(Round(1).MOST, 12)

    def test_constant_is_the_round_of_one_budget(self):
        self.assertEqual(Round.constant(3), Round(3))
        self.assertEqual(Round.constant(0).budgets, [0])
        self.assertEqual(Round.constant(BIG).budgets, [BIG])

    def test_at_repeats_forever(self):
        self.assertEqual([Round(1, 2, 3).at(t) for t in range(8)], [1, 2, 3, 1, 2, 3, 1, 2])
        self.assertEqual(Round(1, 2, 3).at(BIG), 2)
        self.assertEqual(Round(1, 2, 3).at(BIG - 1), 1)

    def test_shifted(self):
        self.assertEqual(Round(1, 2, 3).shifted(4).budgets, [2, 3, 1])
        self.assertEqual(Round(1, 2, 3).shifted(0), Round(1, 2, 3))
        self.assertEqual(Round(1, 2, 3).shifted(3), Round(1, 2, 3))
        self.assertEqual(Round(1, 2, 3).shifted(BIG), Round(2, 3, 1))
        for budgets in small_rounds():
            for phase in range(6):
                turned = budgets.shifted(phase)
                self.assertEqual([turned.at(t) for t in range(5)], [budgets.at(phase + t) for t in range(5)])

    def test_sum_of_rounds(self):
        self.assertEqual((Round(1, 2) + Round(0)).budgets, [1, 2, 0])
        self.assertEqual((Round(0) + Round(1, 2)).budgets, [0, 1, 2])
        self.assertEqual(len(Round(*[1] * 6) + Round(*[2] * 6)), 12)

    def test_sum_of_more_than_twelve(self):
        for first, second in [(6, 7), (12, 1), (1, 12), (12, 12)]:
            with self.assertRaises(InvalidInput) as caught:
                Round(*[1] * first) + Round(*[2] * second)
            self.assertEqual(caught.exception.field, "budgets")

    def test_equal_if_the_lists_are_equal(self):
        self.assertTrue(Round(1, 2) == Round(1, 2))
        self.assertFalse(Round(1, 2) != Round(1, 2))
        for other in [Round(2, 1), Round(1), Round(1, 2, 1), Round(1, 2, 1, 2)]:
            self.assertFalse(Round(1, 2) == other)
            self.assertTrue(Round(1, 2) != other)

    def test_nothing_changes_a_round(self):
        row = [1, 2, 3]
        budgets = Round(*row)
        row.append(4)
        budgets.budgets.append(5)
        budgets.budgets[0] = 9
        with self.assertRaises(AttributeError):
            budgets.budgets = [7]
        other = Round(8)
        budgets + other
        budgets.shifted(1)
        budgets.total(1, 7), budgets.least(4), budgets.worst_start(4), budgets.reach(9)
        self.assertEqual(budgets.budgets, [1, 2, 3])
        self.assertEqual(other.budgets, [8])
        kept = budgets
        kept += other
        self.assertEqual(budgets.budgets, [1, 2, 3])

    def test_number_of_budgets_is_limited(self):
        self.assertEqual(refused_field(Round), "budgets")
        self.assertIsNone(refused_field(Round, 1))
        self.assertIsNone(refused_field(Round, *[1] * 12))
        self.assertEqual(refused_field(Round, *[1] * 13), "budgets")

    def test_each_budget_is_limited(self):
        self.assertEqual(refused_field(Round, -1), "budgets")
        self.assertEqual(refused_field(Round, 1, 2, -1), "budgets")
        self.assertEqual(refused_field(Round, -BIG, 2), "budgets")
        self.assertEqual(refused_field(Round.constant, -1), "budgets")

    def test_entries_of_another_kind_are_refused(self):
        for entry in NO_BUDGETS:
            with self.subTest(entry=entry):
                self.assertEqual(refused_field(Round, entry), "budgets")
                self.assertEqual(refused_field(Round, 1, entry, 2), "budgets")
                self.assertEqual(refused_field(Round.constant, entry), "budgets")

    def test_arguments_below_zero_are_refused(self):
        budgets = Round(2, 0, 0)
        below = [-1, -BIG]
        check_every_mix(self, budgets.at, {"t": 0}, {"t": below})
        check_every_mix(self, budgets.shifted, {"phase": 0}, {"phase": below})
        check_every_mix(self, budgets.total, {"start": 0, "count": 0}, {"start": below, "count": below})
        check_every_mix(self, budgets.least, {"count": 0}, {"count": below})
        check_every_mix(self, budgets.worst_start, {"count": 0}, {"count": below})

    def test_arguments_have_their_names(self):
        budgets = Round(2, 0, 0)
        self.assertEqual(budgets.at(t=3), 2)
        self.assertEqual(budgets.shifted(phase=1), Round(0, 0, 2))
        self.assertEqual(budgets.total(start=1, count=4), 2)
        self.assertEqual(budgets.least(count=2), 0)
        self.assertEqual(budgets.worst_start(count=2), 1)
        self.assertEqual(budgets.reach(need=3), 6)
        self.assertEqual(Round.constant(budget=4), Round(4))

    def test_true_and_other_kinds_are_no_integers_here(self):
        budgets = Round(2, 0, 0)
        for wrong in [True, False, None, "1"]:
            self.assertEqual(refused_field(budgets.at, wrong), "t")
            self.assertEqual(refused_field(budgets.total, wrong, 1), "start")
            self.assertEqual(refused_field(budgets.total, 1, wrong), "count")
            self.assertEqual(refused_field(budgets.reach, wrong), "need")

    def test_a_refusal_is_a_store_error(self):
        with self.assertRaises(StoreError):
            Round()
        with self.assertRaises(ValueError):
            Round(1).at(-1)


class TestSumsOfARound(unittest.TestCase):
    """[8]: total, least, worst_start and reach."""

    def test_the_example(self):
        budgets = Round(2, 0, 0)
        self.assertEqual(budgets.total(1, 4), 2)
        self.assertEqual(budgets.least(2), 0)
        self.assertEqual(budgets.worst_start(2), 1)
        self.assertEqual(budgets.reach(1), 3)
        self.assertEqual(budgets.reach(3), 6)

    def test_small_numbers_against_plain_sums(self):
        for budgets in small_rounds():
            row = budgets.budgets
            for count in range(10):
                totals = [plain_total(row, start, count) for start in range(9)]
                self.assertEqual([budgets.total(start, count) for start in range(9)], totals)
                self.assertEqual(budgets.least(count), min(totals))
                self.assertEqual(budgets.worst_start(count), totals.index(min(totals)))

    def test_reach_against_a_search(self):
        for budgets in small_rounds():
            if sum(budgets.budgets) == 0:
                continue
            leasts = [budgets.least(count) for count in range(50)]
            for need in range(-2, 10):
                found = [count for count in range(50) if leasts[count] >= need][0]
                self.assertEqual(budgets.reach(need), found)

    def test_count_zero(self):
        for budgets in [Round(3), Round(0, 5), Round(0)]:
            self.assertEqual(budgets.total(0, 0), 0)
            self.assertEqual(budgets.total(BIG, 0), 0)
            self.assertEqual(budgets.least(0), 0)
            self.assertEqual(budgets.worst_start(0), 0)

    def test_worst_start_is_the_smallest_one(self):
        self.assertEqual(Round(1, 1, 1).worst_start(2), 0)
        self.assertEqual(Round(5, 0, 5, 0).worst_start(1), 1)
        self.assertEqual(Round(0, 1, 0).worst_start(2), 2)
        self.assertEqual(Round(2, 0, 0).worst_start(3), 0)

    def test_need_of_zero_or_less(self):
        for budgets in [Round(3), Round(0, 5), Round(0), Round(0, 0)]:
            for need in [0, -1, -BIG]:
                self.assertEqual(budgets.reach(need), 0)

    def test_all_budgets_zero(self):
        for budgets in [Round(0), Round(0, 0, 0)]:
            self.assertIsNone(budgets.reach(1))
            self.assertIsNone(budgets.reach(BIG))
            self.assertEqual(budgets.least(BIG), 0)
            self.assertEqual(budgets.total(BIG, BIG), 0)
            self.assertEqual(budgets.worst_start(BIG), 0)

    def test_great_numbers(self):
        budgets = Round(2, 0, 0)
        # 10 ** 30 = 3 * third + 1, so the start 0 has phase 0 and 10 ** 30 has phase 1
        third = (BIG - 1) // 3
        self.assertEqual(budgets.total(0, BIG), 2 * third + 2)
        self.assertEqual(budgets.total(BIG, BIG), 2 * third)
        self.assertEqual(budgets.total(BIG + 2, BIG), 2 * third + 2)
        self.assertEqual(budgets.least(BIG), 2 * third)
        self.assertEqual(budgets.least(BIG + 1), 2 * third)
        self.assertEqual(budgets.least(BIG + 2), 2 * third + 2)
        self.assertEqual(budgets.worst_start(BIG), 1)
        self.assertEqual(budgets.reach(BIG), 3 * (BIG // 2))
        self.assertEqual(budgets.reach(BIG + 1), 3 * (BIG // 2) + 3)

    def test_results_greater_than_the_arguments(self):
        budgets = Round(BIG, 0)
        self.assertEqual(budgets.total(0, BIG), BIG * BIG // 2)
        self.assertEqual(budgets.total(0, BIG + 1), BIG * BIG // 2 + BIG)
        self.assertEqual(budgets.reach(BIG), 2)
        self.assertEqual(budgets.reach(BIG + 1), 4)

    def test_reach_is_exact_at_great_edges(self):
        for budgets in [Round(1), Round(3, 0, 1), Round(0, 7), Round(BIG), Round(*range(12))]:
            for need in [BIG - 1, BIG, BIG + 1]:
                count = budgets.reach(need)
                self.assertGreaterEqual(budgets.least(count), need)
                self.assertLess(budgets.least(count - 1), need)


if __name__ == "__main__":
    unittest.main()
