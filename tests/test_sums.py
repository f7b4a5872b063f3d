"""carrylog.sums: promises [5] and [9] to [14]."""

import unittest
from itertools import product

from carrylog.rounds import Round
from carrylog.sums import (
    best_size, compare_houses, effective, greatest_limit, least_budget, least_free, least_places,
    least_segment_budget, least_segments, ring_goes_on, segment_share, segments_limit,
)
from tests.refusing import check_every_mix, refused_field

BIG = 10 ** 30
ROUNDS = [Round(0), Round(1), Round(2), Round(5), Round(0, 0), Round(2, 0, 0), Round(0, 1), Round(1, 0, 3)]
TERMS = [
    {}, {"late": True}, {"readers": 1}, {"readers": 2}, {"late": True, "tears": 1}, {"late": True, "tears": 3},
]
ZERO, MINUS, NO_ROUND = [0, -1, -BIG], [-1, -BIG], [2, None, [1], (1, 2)]


def plain_rule(places, limit, budgets, late=False, tears=0, readers=0):
    """The rule of the ring, word for word: every sum is written out."""
    if late:
        left, keys = places - 1 - tears, limit
    else:
        left, keys = places, limit * (readers + 1)
    if keys > left:
        return False
    row = budgets.budgets
    sums = [sum(row[(start + t) % len(row)] for t in range(left - keys)) for start in range(len(row))]
    return all(each >= keys - 1 for each in sums)


def first_that(holds, numbers):
    for number in numbers:
        if holds(number):
            return number
    return None


class TestRing(unittest.TestCase):
    """[9] to [12]."""

    def test_effective(self):
        self.assertEqual(effective(10, 4), (10, 4))
        self.assertEqual(effective(10, 4, readers=2), (10, 12))
        self.assertEqual(effective(10, 4, late=True), (9, 4))
        self.assertEqual(effective(10, 4, late=True, tears=2), (7, 4))
        self.assertIsInstance(effective(10, 4), tuple)

    def test_effective_places_of_zero_or_less(self):
        self.assertEqual(effective(1, 1, late=True), (0, 1))
        self.assertEqual(effective(1, 1, late=True, tears=5), (-5, 1))
        for terms in [{}, {"tears": 5}]:
            self.assertFalse(ring_goes_on(1, 1, Round(9), late=True, **terms))
            self.assertEqual(greatest_limit(1, Round(9), late=True, **terms), 0)
            self.assertIsNone(least_budget(1, 1, late=True, **terms))

    def test_effective_of_great_numbers(self):
        self.assertEqual(effective(BIG, BIG, readers=BIG), (BIG, BIG * BIG + BIG))
        self.assertEqual(effective(BIG, BIG, late=True, tears=BIG), (-1, BIG))

    def test_the_examples(self):
        self.assertEqual(least_places(7, Round(2)), 10)
        self.assertEqual(least_places(7, Round(2), late=True), 11)
        self.assertEqual(least_places(7, Round(2), late=True, tears=2), 13)
        self.assertEqual(greatest_limit(10, Round(2)), 7)
        self.assertEqual(least_budget(10, 8), 4)

    def test_the_rule_word_for_word(self):
        for budgets, terms in product(ROUNDS, TERMS):
            for places, limit in product(range(1, 14), range(1, 9)):
                with self.subTest(budgets=budgets.budgets, places=places, limit=limit, **terms):
                    expected = plain_rule(places, limit, budgets, **terms)
                    self.assertIs(ring_goes_on(places, limit, budgets, **terms), expected)

    def test_the_rule_of_a_constant_budget(self):
        for places, limit, budget in product(range(1, 12), range(1, 12), range(5)):
            expected = limit <= places and limit - 1 <= budget * (places - limit)
            self.assertIs(ring_goes_on(places, limit, Round(budget)), expected)

    def test_limit_above_places(self):
        self.assertFalse(ring_goes_on(3, 4, Round(BIG)))
        self.assertFalse(ring_goes_on(3, 2, Round(BIG), readers=1))
        self.assertIsNone(least_budget(3, 4))
        self.assertIsNone(least_budget(3, 2, readers=1))

    def test_one_key_needs_no_free_place(self):
        self.assertTrue(ring_goes_on(1, 1, Round(0)))
        self.assertTrue(ring_goes_on(2, 1, Round(0), late=True))
        self.assertFalse(ring_goes_on(1, 1, Round(0), late=True))
        self.assertFalse(ring_goes_on(2, 2, Round(BIG)))
        self.assertEqual(least_places(1, Round(0)), 1)
        self.assertEqual(least_places(1, Round(0), late=True, tears=3), 5)
        self.assertEqual(least_budget(1, 1), 0)
        self.assertEqual(least_budget(5, 1), 0)
        self.assertIsNone(least_budget(2, 2))
        self.assertEqual(least_free(1, Round(0)), 0)

    def test_all_budgets_zero(self):
        for budgets in [Round(0), Round(0, 0, 0)]:
            self.assertEqual(greatest_limit(1, budgets), 1)
            self.assertEqual(greatest_limit(BIG, budgets), 1)
            self.assertFalse(ring_goes_on(BIG, 2, budgets))
            self.assertIsNone(least_places(2, budgets))
            self.assertIsNone(least_places(1, budgets, readers=1))
            self.assertIsNone(least_free(2, budgets))

    def test_the_answers_against_a_search(self):
        for budgets, terms in product(ROUNDS, TERMS):
            for number in range(1, 9):
                with self.subTest(budgets=budgets.budgets, number=number, **terms):
                    found = first_that(lambda places: plain_rule(places, number, budgets, **terms), range(1, 120))
                    self.assertEqual(least_places(number, budgets, **terms), found)
        for terms in TERMS:
            for places, limit in product(range(1, 14), range(1, 9)):
                with self.subTest(places=places, limit=limit, **terms):
                    found = first_that(lambda budget: plain_rule(places, limit, Round(budget), **terms), range(40))
                    self.assertEqual(least_budget(places, limit, **terms), found)

    def test_greatest_limit_against_a_search(self):
        for budgets, terms in product(ROUNDS, [{}, {"late": True}, {"late": True, "tears": 3}]):
            for places in range(1, 30):
                with self.subTest(budgets=budgets.budgets, places=places, **terms):
                    kept = [limit for limit in range(1, 31) if plain_rule(places, limit, budgets, **terms)]
                    self.assertEqual(greatest_limit(places, budgets, **terms), max(kept, default=0))

    def test_least_free_is_a_reach(self):
        for budgets, limit in product(ROUNDS, range(1, 9)):
            self.assertEqual(least_free(limit, budgets), budgets.reach(limit - 1))
        self.assertEqual(least_free(BIG, Round(1)), BIG - 1)
        self.assertEqual(least_free(4, Round(2, 0, 0)), 6)

    def test_great_numbers(self):
        self.assertEqual(least_places(BIG, Round(1)), 2 * BIG - 1)
        self.assertEqual(least_places(BIG, Round(1), readers=1), 4 * BIG - 1)
        self.assertEqual(least_places(BIG, Round(BIG), late=True, tears=BIG), 2 * BIG + 2)
        self.assertEqual(greatest_limit(BIG, Round(1)), BIG // 2)
        self.assertEqual(greatest_limit(BIG, Round(BIG)), BIG - 1)
        self.assertEqual(greatest_limit(BIG, Round(1), late=True, tears=BIG - 2), 1)
        self.assertEqual(greatest_limit(BIG, Round(1), late=True, tears=BIG - 1), 0)
        self.assertEqual(least_budget(BIG, BIG - 1), BIG - 2)
        self.assertEqual(least_budget(BIG, BIG // 2), 1)
        self.assertEqual(least_budget(BIG, BIG // 2 + 1), 2)

    def test_great_edges_and_one_beside_them(self):
        for budgets, terms in product(ROUNDS, TERMS):
            if sum(budgets.budgets) == 0:
                continue
            for limit in [BIG - 1, BIG]:
                places = least_places(limit, budgets, **terms)
                self.assertTrue(ring_goes_on(places, limit, budgets, **terms))
                self.assertFalse(ring_goes_on(places - 1, limit, budgets, **terms))
                self.assertFalse(ring_goes_on(places, limit + 1, budgets, **terms))
                if "readers" not in terms:
                    self.assertEqual(greatest_limit(places, budgets, **terms), limit)
                    self.assertLess(greatest_limit(places - 1, budgets, **terms), limit)
                budget = least_budget(places, limit, **terms)
                self.assertTrue(ring_goes_on(places, limit, Round(budget), **terms))
                self.assertFalse(ring_goes_on(places, limit, Round(budget - 1), **terms))

    def test_answers_are_of_the_stated_kinds(self):
        self.assertIs(type(greatest_limit(10, Round(2))), int)
        self.assertIs(type(ring_goes_on(10, 7, Round(2))), bool)
        self.assertIs(type(ring_goes_on(1, 7, Round(2))), bool)


class TestSegments(unittest.TestCase):
    """[13] and [14]."""

    def test_the_example(self):
        self.assertEqual(segment_share(4, 1), 3)
        self.assertEqual(segments_limit(5, 4, 1), 13)
        self.assertEqual(compare_houses(5, 4, 1), (10, 13))

    def test_share(self):
        for size, budget in product(range(1, 12), range(12)):
            self.assertEqual(segment_share(size, budget), budget * size // (budget + 1) + 1)
        self.assertEqual(segment_share(4, 0), 1)
        self.assertEqual(segment_share(4, 2), 3)
        self.assertEqual(segment_share(4, 3), 4)
        self.assertEqual(segment_share(4, BIG), 4)
        self.assertEqual(segment_share(BIG, BIG), BIG)
        self.assertEqual(segment_share(BIG, 1), BIG // 2 + 1)

    def test_limit(self):
        for segments, size, budget in product(range(1, 7), range(1, 7), range(7)):
            most = (segments - 1) * (budget * size // (budget + 1) + 1) + 1
            self.assertEqual(segments_limit(segments, size, budget), most)
            self.assertEqual(segments_limit(segments, size, budget, late=True), most - 1)

    def test_one_segment(self):
        for size, budget in [(1, 0), (4, 3), (BIG, BIG)]:
            self.assertEqual(segments_limit(1, size, budget), 1)
            self.assertEqual(segments_limit(1, size, budget, late=True), 0)
            self.assertEqual(least_segment_budget(1, 1, size), 0)
            self.assertIsNone(least_segment_budget(2, 1, size))
            self.assertIsNone(least_segment_budget(1, 1, size, late=True))

    def test_least_segments_against_a_search(self):
        for limit, size, budget, late in product(range(1, 15), range(1, 6), range(5), [False, True]):
            found = first_that(lambda many: limit <= segments_limit(many, size, budget, late=late), range(1, 30))
            self.assertEqual(least_segments(limit, size, budget, late=late), found)
        self.assertEqual(least_segments(1, 5, 0), 1)
        self.assertEqual(least_segments(1, 5, 0, late=True), 2)

    def test_least_segment_budget_against_a_search(self):
        for limit, segments, size, late in product(range(1, 20), range(1, 5), range(1, 8), [False, True]):
            found = first_that(lambda budget: limit <= segments_limit(segments, size, budget, late=late), range(30))
            self.assertEqual(least_segment_budget(limit, segments, size, late=late), found)

    def test_great_numbers(self):
        self.assertEqual(segments_limit(BIG, BIG, BIG), (BIG - 1) * BIG + 1)
        self.assertEqual(least_segments(BIG, BIG, BIG), 2)
        self.assertEqual(least_segments(BIG, BIG, 1), 3)
        self.assertEqual(least_segments(BIG, 1, 0), BIG)
        self.assertEqual(least_segments(BIG, 1, 0, late=True), BIG + 1)
        self.assertEqual(least_segments(BIG, 2, 1, late=True), 1 + BIG // 2)
        self.assertEqual(least_segment_budget(BIG, 2, BIG), (BIG - 2) // 2)
        self.assertEqual(least_segment_budget(BIG, 2, BIG, late=True), BIG - 1)
        self.assertEqual(least_segment_budget(BIG + 1, 2, BIG), BIG - 1)
        self.assertIsNone(least_segment_budget(BIG + 2, 2, BIG))
        self.assertIsNone(least_segment_budget(BIG + 1, 2, BIG, late=True))
        self.assertEqual(compare_houses(BIG, BIG, 1), (BIG * BIG // 2, (BIG - 1) * (BIG // 2 + 1) + 1))

    def test_great_edges_and_one_beside_them(self):
        for limit, size, budget, late in product([BIG - 1, BIG], [7, BIG // 3], [0, 1, 5], [False, True]):
            many = least_segments(limit, size, budget, late=late)
            self.assertLessEqual(limit, segments_limit(many, size, budget, late=late))
            self.assertGreater(limit, segments_limit(many - 1, size, budget, late=late))
        for segments, size, late in product([2, 7, BIG], [BIG - 1, BIG], [False, True]):
            limit = segments * size // 2
            budget = least_segment_budget(limit, segments, size, late=late)
            self.assertLessEqual(limit, segments_limit(segments, size, budget, late=late))
            if budget > 0:
                self.assertGreater(limit, segments_limit(segments, size, budget - 1, late=late))

    def test_compare_houses(self):
        for segments, size, budget in product(range(1, 6), range(1, 6), range(4)):
            ring = greatest_limit(segments * size, Round(budget))
            self.assertEqual(compare_houses(segments, size, budget), (ring, segments_limit(segments, size, budget)))
        self.assertIsInstance(compare_houses(1, 1, 0), tuple)

    def test_best_size_against_a_search(self):
        for places, budget, late in product(range(1, 37), range(4), [False, True]):
            for least in range(1, places + 1):
                rows = [
                    (-segments_limit(places // size, size, budget, late=late), size)
                    for size in range(least, places + 1) if places % size == 0
                ]
                limit, size = min(rows)
                self.assertEqual(best_size(places, budget, least, late=late), (size, -limit))

    def test_best_size(self):
        self.assertEqual(best_size(20, 1, 4), (4, 13))
        self.assertEqual(best_size(20, 1, 4, late=True), (4, 12))
        self.assertEqual(best_size(7, 3, 2), (7, 1))
        self.assertEqual(best_size(7, 3, 2, late=True), (7, 0))
        self.assertEqual(best_size(1, 0, 1), (1, 1))
        self.assertIsInstance(best_size(20, 1, 4), tuple)

    def test_best_size_prefers_the_smallest_on_a_tie(self):
        for places, budget, least, tied, limit in [
            (12, 1, 3, [3, 4], 7), (20, 2, 3, [4, 5], 13), (35, 3, 2, [5, 7], 25),
        ]:
            self.assertEqual([segments_limit(places // size, size, budget) for size in tied], [limit, limit])
            self.assertEqual(best_size(places, budget, least), (tied[0], limit))
            self.assertEqual(best_size(places, budget, least, late=True), (tied[0], limit - 1))
            self.assertEqual(best_size(places, budget, tied[1]), (tied[1], limit))

    def test_best_size_of_many_places(self):
        self.assertEqual(best_size(10 ** 6, 1, 1), (1, 10 ** 6))
        self.assertEqual(best_size(10 ** 6, 1, 3), (4, 3 * (250000 - 1) + 1))
        self.assertEqual(best_size(10 ** 6, BIG, 500001), (10 ** 6, 1))
        self.assertEqual(best_size(999983, 1, 2), (999983, 1))
        self.assertEqual(best_size(999983, 1, 1, late=True), (1, 999982))


class TestRefusals(unittest.TestCase):
    """[5]: the order of the checks and the fields."""

    def test_functions_of_places_and_limit(self):
        broken = {"places": ZERO, "limit": ZERO, "budgets": NO_ROUND, "tears": MINUS, "readers": MINUS}
        named = {"tears": 0, "readers": 0}
        check_every_mix(self, effective, {"places": 5, "limit": 2}, broken, named)
        check_every_mix(self, least_budget, {"places": 5, "limit": 2}, broken, named)
        check_every_mix(self, ring_goes_on, {"places": 5, "limit": 2, "budgets": Round(1)}, broken, named)
        check_every_mix(self, least_places, {"limit": 2, "budgets": Round(1)}, broken, named)
        check_every_mix(self, greatest_limit, {"places": 5, "budgets": Round(1)}, broken, {"tears": 0})
        check_every_mix(self, least_free, {"limit": 2, "budgets": Round(1)}, broken)

    def test_the_same_in_the_late_order(self):
        broken = {"places": ZERO, "limit": ZERO, "budgets": NO_ROUND, "tears": MINUS, "readers": [-1, 1, BIG]}
        named = {"late": True, "tears": 1, "readers": 0}
        check_every_mix(self, effective, {"places": 5, "limit": 2}, broken, named)
        check_every_mix(self, least_budget, {"places": 5, "limit": 2}, broken, named)
        check_every_mix(self, ring_goes_on, {"places": 5, "limit": 2, "budgets": Round(1)}, broken, named)
        check_every_mix(self, least_places, {"limit": 2, "budgets": Round(1)}, broken, named)
        check_every_mix(self, greatest_limit, {"places": 5, "budgets": Round(1)}, broken, {"late": True, "tears": 1})

    def test_tears_in_the_early_order(self):
        # This limit depends on late, so it is checked after those that stand by themselves.
        calls = [
            (effective, [5, 2], [0, 2]), (least_budget, [5, 2], [5, 0]),
            (ring_goes_on, [5, 2, Round(1)], [5, 0, Round(1)]), (least_places, [2, Round(1)], [0, Round(1)]),
        ]
        for call, good, wrong in calls:
            with self.subTest(call=call.__name__):
                self.assertEqual(refused_field(call, *good, tears=1), "tears")
                self.assertEqual(refused_field(call, *good, tears=BIG, readers=1), "tears")
                self.assertEqual(refused_field(call, *good, tears=1, readers=-1), "readers")
                self.assertIn(refused_field(call, *wrong, tears=1, readers=-1), ["places", "limit"])
                self.assertIsNone(refused_field(call, *good, late=True, tears=1))
        self.assertEqual(refused_field(greatest_limit, 5, Round(1), tears=1), "tears")
        self.assertEqual(refused_field(greatest_limit, 0, Round(1), tears=1), "places")

    def test_readers_in_the_late_order(self):
        for call, good in [(effective, [5, 2]), (least_budget, [5, 2]), (least_places, [2, Round(1)])]:
            with self.subTest(call=call.__name__):
                self.assertEqual(refused_field(call, *good, late=True, readers=1), "readers")
                self.assertEqual(refused_field(call, *good, late=True, tears=-1, readers=1), "tears")
                self.assertEqual(refused_field(call, *good, late=True, tears=1, readers=1), "readers")
                self.assertIsNone(refused_field(call, *good, readers=1))

    def test_functions_of_segments(self):
        broken = {"segments": ZERO, "size": ZERO, "budget": MINUS, "limit": ZERO}
        check_every_mix(self, segment_share, {"size": 4, "budget": 1}, broken)
        for named in [{"late": False}, {"late": True}]:
            check_every_mix(self, segments_limit, {"segments": 5, "size": 4, "budget": 1}, broken, named)
            check_every_mix(self, least_segments, {"limit": 5, "size": 4, "budget": 1}, broken, named)
            check_every_mix(self, least_segment_budget, {"limit": 5, "segments": 2, "size": 4}, broken, named)
        check_every_mix(self, compare_houses, {"segments": 5, "size": 4, "budget": 1}, broken)

    def test_best_size(self):
        broken = {"places": ZERO, "budget": MINUS, "least": [0, -BIG, 21, BIG]}
        check_every_mix(self, best_size, {"places": 20, "budget": 1, "least": 4}, broken)
        self.assertIsNone(refused_field(best_size, 20, 1, 20))
        self.assertEqual(refused_field(best_size, 20, 1, 21), "least")
        # A broken limit is refused also where a size is not kept.
        self.assertEqual(refused_field(best_size, BIG, 1, BIG + 1), "least")
        self.assertEqual(refused_field(best_size, BIG, -1, 1), "budget")

    def test_budget_zero_and_readers_zero_are_good(self):
        self.assertEqual(segments_limit(3, 4, 0), 3)
        self.assertEqual(least_segments(3, 4, 0), 3)
        self.assertTrue(ring_goes_on(1, 1, Round(0), tears=0, readers=0))


class TestPlainCalls(unittest.TestCase):
    """[4]: arguments stay as they are; the interface: their names."""

    def test_a_round_is_not_changed(self):
        budgets = Round(2, 0, 1)
        ring_goes_on(9, 4, budgets)
        least_places(4, budgets, readers=1)
        greatest_limit(9, budgets, late=True, tears=1)
        least_free(4, budgets)
        self.assertEqual(budgets.budgets, [2, 0, 1])

    def test_arguments_have_their_names(self):
        one = Round(1)
        self.assertEqual(effective(places=5, limit=2, late=False, tears=0, readers=1), (5, 4))
        self.assertTrue(ring_goes_on(places=5, limit=2, budgets=one, late=True, tears=1, readers=0))
        self.assertEqual(least_places(limit=2, budgets=one, late=True, tears=1, readers=0), 5)
        self.assertEqual(greatest_limit(places=5, budgets=one, late=True, tears=1), 2)
        self.assertEqual(least_budget(places=5, limit=2, late=True, tears=1, readers=0), 1)
        self.assertEqual(least_free(limit=2, budgets=one), 1)
        self.assertEqual(segment_share(size=4, budget=1), 3)
        self.assertEqual(segments_limit(segments=5, size=4, budget=1, late=False), 13)
        self.assertEqual(least_segments(limit=13, size=4, budget=1, late=False), 5)
        self.assertEqual(least_segment_budget(limit=13, segments=5, size=4, late=False), 1)
        self.assertEqual(compare_houses(segments=5, size=4, budget=1), (10, 13))
        self.assertEqual(best_size(places=20, budget=1, least=4, late=False), (4, 13))

    def test_terms_go_by_keyword_alone(self):
        for call in [
            lambda: effective(5, 2, True), lambda: ring_goes_on(5, 2, Round(1), True),
            lambda: least_places(2, Round(1), True), lambda: greatest_limit(5, Round(1), True),
            lambda: least_budget(5, 2, True), lambda: segments_limit(5, 4, 1, True),
            lambda: least_segments(5, 4, 1, True), lambda: least_segment_budget(5, 2, 4, True),
            lambda: best_size(20, 1, 4, True),
        ]:
            with self.assertRaises(TypeError):
                call()


if __name__ == "__main__":
    unittest.main()
