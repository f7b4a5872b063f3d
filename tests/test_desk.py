"""carrylog.desk: promises [89] to [94], and [3] to [5] for them."""

import random
import unittest

from carrylog.desk import Desk
from carrylog.keepers import Thrifty
from carrylog.life import safe
from carrylog.papers import stall_holds, stall_paper
from carrylog.ring import Ring
from carrylog.rounds import Round
from carrylog.sums import greatest_limit, least_places, ring_goes_on
from tests.games import without
from tests.outcomes import outcome
from tests.plain_desk import PlainDesk, picture_of
from tests.plain_ring import Refused
from tests.refusing import check_every_mix, refused_field

BIG = 10 ** 30
ZERO = [0, -1, -BIG]
NO_ROUNDS = [1, [1], (1, 2), "1"]
KEYS = ["a", "b", "c", "d", "0", "zz9"]
NO_KEYS = ["", "A", "a b", "a" * 13, "-", "\n", "a\n", "\u00e4"]
ROUNDS = [[1], [2], [3, 0], [0, 1], [2, 0, 0], [1, 0, 3], [9]]


def model_outcome(call, *args):
    """Like `outcome`, with the certificate of a NotSafe worked out from the standing."""
    try:
        return ("done", call(*args))
    except Refused as refusal:
        name, told = refusal.args
        if name == "NotSafe":
            word, places, limit, row, phase = told
            return (name, stall_paper(word, places, limit, Round(*row), phase))
        return (name, told)


def filled(places, limit, budgets, keys):
    desk = Desk(places, limit, budgets)
    for value, key in enumerate(keys):
        desk.put(key, value)
    return desk


def view(desk):
    """All that can be seen, with what an undo and a redo would bring back."""
    trial = desk.twin()
    seen = [picture_of(trial, KEYS)]
    while outcome(trial.redo)[0] == "done":
        seen.append(picture_of(trial, KEYS))
    while outcome(trial.undo)[0] == "done":
        seen.append(picture_of(trial, KEYS))
    return seen


class TestTheDesk(unittest.TestCase):
    """[89]."""

    def test_it_starts_empty(self):
        desk = Desk(5, 3, Round(1, 2))
        self.assertEqual(picture_of(desk, KEYS), PlainDesk(5, 3, [1, 2]).picture(KEYS))
        self.assertEqual((desk.places, desk.limit, desk.budgets, desk.word, desk.free), (5, 3, Round(1, 2), "", 5))
        self.assertEqual((desk.phase, desk.done, desk.carried, desk.steps, desk.spare), (0, 0, 0, 0, 0))
        self.assertEqual((len(desk), "a" in desk, desk.table(), desk.history()), (0, False, {}, []))

    def test_an_unsafe_empty_standing(self):
        for places, limit, budgets in [(5, 4, Round(1)), (3, 3, Round(9)), (2, 2, Round(0)), (9, 5, Round(0, 0, 1))]:
            came = outcome(Desk, places, limit, budgets)
            self.assertEqual(came, ("NotSafe", stall_paper("", places, limit, budgets)))
            self.assertTrue(stall_holds(came[1], "", places, limit, budgets))

    def test_it_is_made_exactly_if_the_rule_holds(self):
        for places in range(1, 9):
            for limit in range(1, places + 1):
                for row in ROUNDS + [[0]]:
                    goes_on = ring_goes_on(places, limit, Round(*row))
                    self.assertEqual(outcome(Desk, places, limit, Round(*row))[0], "done" if goes_on else "NotSafe")

    def test_limits_come_before_safety(self):
        broken = {"places": ZERO, "limit": ZERO, "budgets": [None, *NO_ROUNDS]}
        check_every_mix(self, Desk, {"places": 3, "limit": 2, "budgets": Round(1)}, broken)
        self.assertEqual(refused_field(Desk, 3, 4, Round(0)), "limit")
        self.assertEqual(refused_field(Desk, 3, 4, None), "budgets")

    def test_any_string_may_be_asked_for(self):
        desk = filled(5, 3, Round(1), "ab")
        for key in NO_KEYS + ["c"]:
            self.assertNotIn(key, desk)
            self.assertEqual(outcome(desk.read, key), ("UnknownKey", key))
            self.assertEqual(outcome(desk.delete, key), ("UnknownKey", key))
        self.assertEqual((desk.read("a"), desk.read("b"), "a" in desk, len(desk)), (0, 1, True, 2))

    def test_spare(self):
        self.assertEqual(Desk(10, 3, Round(1)).spare, 5)
        self.assertEqual(Desk(5, 3, Round(1)).spare, 0)
        self.assertEqual(Desk(4, 1, Round(0)).spare, 3)
        desk = filled(10, 3, Round(1), "abccc")
        self.assertEqual((desk.word, desk.spare), ("11001", 3))
        self.assertEqual(outcome(desk.twin().change, places=10 - desk.spare), ("done", None))
        self.assertNotEqual(outcome(desk.twin().change, places=9 - desk.spare)[0], "done")

    def test_spare_of_a_log_that_is_longer_than_the_limit(self):
        desk = filled(9, 3, Round(1), "abc")
        desk.delete("c")
        desk.delete("b")
        self.assertEqual(desk.word, "10000")
        desk.change(limit=1)
        self.assertEqual(desk.spare, 4)
        desk.change(places=5)
        self.assertEqual((desk.free, desk.spare), (0, 0))
        self.assertEqual(refused_field(desk.change, places=4), "places")

    def test_results_are_new(self):
        desk = filled(6, 3, Round(2), "ab")
        desk.change(budgets=Round(3, 1))
        before = view(desk)
        desk.table().clear()
        desk.history()[2][3].append(7)
        desk.history().clear()
        desk.attempt(("delete", "a")).clear()
        desk.budgets.budgets.clear()
        self.assertEqual(view(desk), before)


class TestDeeds(unittest.TestCase):
    """[90]."""

    def test_the_smallest_count(self):
        desk = Desk(5, 3, Round(1))
        self.assertEqual([desk.put(key, 1) for key in "abcabcaabb"], [0, 0, 0, 0, 0, 0, 0, 1, 1, 1])
        self.assertEqual((desk.word, desk.carried, desk.done), ("1011", 3, 10))
        desk = filled(6, 3, Round(1), "abcba")
        self.assertEqual(desk.word, "111")
        self.assertEqual([desk.put("a", 1), desk.put("a", 2), desk.delete("a"), desk.delete("b")], [0, 1, 1, 0])

    def test_the_edges(self):
        desk = Desk(1, 1, Round(0))
        self.assertEqual([desk.put("a", value) for value in range(3)], [0, 0, 0])
        self.assertEqual((desk.delete("a"), desk.word, desk.done), (0, "", 4))
        desk = filled(4, 3, Round(2, 9, 9), "abc")
        self.assertEqual(desk.table(), {"a": 0, "b": 1, "c": 2})

    def test_refusals(self):
        desk = filled(5, 3, Round(1), "abc")
        desk.undo()
        desk.redo()
        desk.undo()
        desk.put("d", 1)
        desk.undo()
        before = view(desk)
        for call, expected in [
            ((desk.delete, "c"), ("UnknownKey", "c")), ((desk.delete, ""), ("UnknownKey", "")),
            ((desk.read, "c"), ("UnknownKey", "c")), ((desk.put, "A", 1), ("InvalidInput", "key")),
        ]:
            self.assertEqual(outcome(*call), expected)
            self.assertEqual(view(desk), before)
        desk.redo()
        before = view(desk)
        self.assertEqual(outcome(desk.put, "e", 1), ("KeyLimit", 3))
        for key in NO_KEYS:
            self.assertEqual(outcome(desk.put, key, 1), ("InvalidInput", "key"))
        self.assertEqual(view(desk), before)

    def test_no_deed_is_refused_for_want_of_a_place(self):
        for seed in range(40):
            draw = random.Random(seed)
            places, row = draw.randrange(3, 40), draw.choice(ROUNDS)
            limit = greatest_limit(places, Round(*row))
            desk = Desk(places, limit, Round(*row))
            table = {}
            for turn in range(150):
                key = self.next_key(draw, desk)
                if key in desk and draw.random() < 0.2:
                    self.assertEqual(outcome(desk.delete, key)[0], "done")
                    del table[key]
                else:
                    self.check_put(desk, key, turn)
                    table[key] = turn
                self.assertTrue(safe(desk.word, desk.places, desk.limit, desk.budgets, desk.phase))
                self.assertEqual(desk.table(), table)
                if draw.random() < 0.1 and desk.spare > 0:
                    desk.change(places=desk.places - draw.randrange(desk.spare + 1))
                if draw.random() < 0.05:
                    outcome(desk.change, limit=draw.randrange(1, 9), budgets=Round(*draw.choice(ROUNDS)))

    def check_put(self, desk, key, value):
        """A put carries what a thrifty keeper would."""
        alive = list(desk.table())
        moment = without(desk.word, alive.index(key) if key in alive else None)
        count = Thrifty(desk.limit).choose(moment, desk.places, desk.budgets, desk.phase)
        carried = desk.carried
        self.assertEqual(outcome(desk.put, key, value), ("done", count))
        self.assertEqual(desk.carried - carried, count)

    def next_key(self, draw, desk):
        alive = list(desk.table())
        if len(alive) < desk.limit:
            return [f"k{number}" for number in range(60) if f"k{number}" not in desk][0]
        return alive[-1] if draw.random() < 0.7 else draw.choice(alive)

    def test_the_sizes(self):
        desk = Desk(64, 42, Round(2))
        for turn in range(300):
            desk.put(f"k{turn * 5 % 42}", turn)
        self.assertEqual((len(desk), desk.done), (42, 300))
        self.assertGreaterEqual(desk.spare, 0)


class TestChange(unittest.TestCase):
    """[91]."""

    def test_new_terms(self):
        desk = filled(6, 3, Round(1, 2, 2), "ab")
        self.assertIsNone(desk.change(places=7))
        self.assertEqual((desk.places, desk.limit, desk.phase, desk.done, desk.steps), (7, 3, 2, 2, 3))
        desk.change(budgets=Round(2, 1))
        self.assertEqual((desk.budgets, desk.phase, desk.done), (Round(2, 1), 0, 2))
        desk.change(limit=4)
        desk.change()
        self.assertEqual((desk.limit, desk.steps, desk.phase), (4, 6, 0))
        desk.change(places=8, limit=2, budgets=Round(1))
        self.assertEqual((desk.places, desk.limit, desk.budgets, desk.table()), (8, 2, Round(1), {"a": 0, "b": 1}))

    def test_refused_with_not_safe(self):
        desk = filled(6, 3, Round(1), "abcca")
        desk.undo()
        self.assertEqual(desk.word, "1101")
        before = view(desk)
        for named in [{"limit": 4}, {"budgets": Round(0)}, {"budgets": Round(0, 0, 0, 0, 0, 1)},
                      {"places": 7, "limit": 6}, {"places": 5}, {"limit": 6, "budgets": Round(9)}]:
            places, limit = named.get("places", 6), named.get("limit", 3)
            paper = stall_paper("1101", places, limit, named.get("budgets", Round(1)), 0)
            with self.subTest(**named):
                self.assertIsNotNone(paper)
                self.assertEqual(outcome(desk.change, **named), ("NotSafe", paper))
                self.assertEqual(view(desk), before)

    def test_the_certificate_is_that_of_the_phase_it_would_have(self):
        desk = filled(9, 3, Round(2, 2, 0), "ab")
        self.assertEqual(desk.phase, 2)
        self.assertEqual(outcome(desk.change, places=4),
                         ("NotSafe", stall_paper(desk.word, 4, 3, Round(2, 2, 0), 2)))
        self.assertEqual(outcome(desk.change, places=4, budgets=Round(2, 2, 0)),
                         ("NotSafe", stall_paper(desk.word, 4, 3, Round(2, 2, 0), 0)))
        self.assertNotEqual(stall_paper(desk.word, 4, 3, Round(2, 2, 0), 2),
                            stall_paper(desk.word, 4, 3, Round(2, 2, 0), 0))

    def test_refused_with_invalid_input(self):
        desk = filled(6, 3, Round(1), "abca")
        desk.undo()
        before = view(desk)
        self.assertEqual(desk.word, "111")
        for named, field in [
            ({"places": 0}, "places"), ({"limit": 0}, "limit"), ({"places": -1, "limit": 0}, "places"),
            ({"places": 2}, "places"), ({"places": 2, "limit": 0}, "limit"), ({"places": 2, "limit": 2}, "places"),
            ({"limit": 2}, "limit"), ({"limit": 7}, "limit"), ({"places": 3, "limit": 4}, "limit"),
            ({"places": 2, "limit": 9, "budgets": Round(0)}, "places"), ({"limit": BIG}, "limit"),
        ]:
            with self.subTest(**named):
                self.assertEqual(refused_field(desk.change, **named), field)
                self.assertEqual(view(desk), before)

    def test_each_mix_of_limits(self):
        check_every_mix(self, Desk(9, 3, Round(1)).change, {}, {
            "places": ZERO, "limit": ZERO, "budgets": NO_ROUNDS,
        }, {"places": 8, "limit": 2, "budgets": Round(2)})


class TestUndo(unittest.TestCase):
    """[92]."""

    def test_there_is_none(self):
        desk = Desk(5, 3, Round(1))
        self.assertEqual((outcome(desk.undo), outcome(desk.redo)), (("NothingToUndo", None), ("NothingToRedo", None)))
        desk.put("a", 1)
        self.assertEqual(outcome(desk.redo), ("NothingToRedo", None))
        self.assertIsNone(desk.undo())
        self.assertEqual(outcome(desk.undo), ("NothingToUndo", None))
        self.assertIsNone(desk.redo())
        self.assertEqual(outcome(desk.redo), ("NothingToRedo", None))
        self.assertEqual((desk.table(), desk.steps), ({"a": 1}, 1))

    def test_across_a_change(self):
        desk = filled(6, 3, Round(1, 2), "abc")
        seen = [picture_of(desk, KEYS)]
        for deed in [lambda: desk.change(places=8, budgets=Round(2, 1, 0)), lambda: desk.put("a", 7),
                     lambda: desk.delete("b"), lambda: desk.change(limit=2), lambda: desk.change()]:
            deed()
            seen.append(picture_of(desk, KEYS))
        for expected in reversed(seen[:-1]):
            desk.undo()
            self.assertEqual(picture_of(desk, KEYS), expected)
        for expected in seen[1:]:
            desk.redo()
            self.assertEqual(picture_of(desk, KEYS), expected)

    def test_a_new_deed_discards_the_undone_ones(self):
        for deed in [lambda desk: desk.put("a", 9), lambda desk: desk.delete("a"), lambda desk: desk.change()]:
            desk = filled(6, 3, Round(1), "abc")
            desk.undo()
            desk.undo()
            deed(desk)
            self.assertEqual((outcome(desk.redo), desk.steps), (("NothingToRedo", None), 2))
            desk.undo()
            self.assertEqual(desk.table(), {"a": 0})

    def test_a_refused_deed_discards_nothing(self):
        desk = filled(6, 3, Round(1), "abc")
        desk.undo()
        for call in [(desk.put, "A", 1), (desk.delete, "c")]:
            outcome(*call)
        outcome(desk.change, places=1)
        outcome(desk.change, budgets=Round(0))
        self.assertIsNone(desk.redo())
        self.assertEqual(len(desk), 3)

    def test_history(self):
        desk = Desk(5, 3, Round(1))
        for key in "abcabca":
            desk.put(key, 1)
        desk.put("a", -5)
        desk.delete("b")
        desk.change()
        desk.change(places=9)
        desk.change(limit=2, budgets=Round(3, 0))
        self.assertEqual(desk.history()[6:], [
            ("put", "a", 1, 0), ("put", "a", -5, 1), ("delete", "b", 1), ("change", None, None, None),
            ("change", 9, None, None), ("change", None, 2, [3, 0]),
        ])
        desk.undo()
        self.assertEqual(desk.history()[10:], [("change", 9, None, None)])
        self.assertEqual((desk.steps, len(desk.history())), (11, 11))


class TestAttempt(unittest.TestCase):
    """[93]."""

    def setUp(self):
        self.desk = filled(5, 3, Round(1), "abca")
        self.desk.undo()
        self.before = view(self.desk)

    def check(self, deeds, outcomes):
        self.assertEqual(self.desk.attempt(*deeds), outcomes)
        self.assertEqual(view(self.desk), self.before)

    def test_outcomes(self):
        self.check([], [])
        self.check([("put", "a", 1), ("put", "a", 1), ("put", "a", 2), ("delete", "a")], [0, 1, 1, 1])
        self.check([("change", 9, None, None), ("change", None, None, [2, 3]), ("put", "b", 1)], [None, None, 0])
        self.check([("change", None, None, None), ("undo",), ("redo",)], [None, None, None])
        self.check([("delete", "a"), ("put", "d", 1), ("put", "e", 1)], [0, 1, "KeyLimit"])

    def test_an_undo_of_deeds_from_before(self):
        self.check([("undo",), ("undo",), ("undo",), ("undo",), ("redo",)], [None, None, None, "NothingToUndo"])
        self.check([("undo",), ("undo",), ("put", "x", 1), ("redo",)], [None, None, 0, "NothingToRedo"])
        self.check([("redo",), ("redo",)], [None, "NothingToRedo"])
        self.check([("undo",), ("put", "d", 1), ("put", "c", 1)], [None, 0, "KeyLimit"])

    def test_each_refusal(self):
        for deed, name in [
            (("put", "d", 1), "KeyLimit"), (("put", "A", 1), "InvalidInput"), (("put", "", 1), "InvalidInput"),
            (("put", "a" * 13, 1), "InvalidInput"), (("delete", "d"), "UnknownKey"), (("delete", ""), "UnknownKey"),
            (("change", 0, None, None), "InvalidInput"), (("change", -BIG, None, None), "InvalidInput"),
            (("change", None, 0, None), "InvalidInput"), (("change", None, None, []), "InvalidInput"),
            (("change", None, None, [1, -1]), "InvalidInput"), (("change", None, None, [1] * 13), "InvalidInput"),
            (("change", 2, None, None), "InvalidInput"), (("change", None, 6, None), "InvalidInput"),
            (("change", None, 2, None), "InvalidInput"), (("change", None, 4, None), "NotSafe"),
            (("change", None, None, [0]), "NotSafe"),
        ]:
            with self.subTest(deed=deed):
                self.check([deed], [name])
                self.check([("put", "a", 1), deed, ("bad",)], [0, name])

    def test_bad_tuples(self):
        bad = [
            (), ("x",), ("put",), ("put", "a"), ("put", "a", 1, 0), ("put", 5, 1), ("put", "a", "1"),
            ("put", "a", True), ("put", "a", None), ("put", None, 1), ("delete",), ("delete", "a", 0), ("delete", 5),
            ("delete", None), ("delete", b"a"), ("change",), ("change", 5), ("change", 5, 3), ("change", 5, 3, [1], 0),
            ("change", "5", None, None), ("change", True, None, None), ("change", None, False, None),
            ("change", None, [3], None), ("change", None, None, 1), ("change", None, None, (1, 2)),
            ("change", None, None, Round(1)), ("change", None, None, [1, None]), ("change", None, None, ["1"]),
            ("change", None, None, [True]), ("change", None, None, "1"), ("undo", 1), ("redo", None), ("undo", "undo"),
            ("Put", "a", 1), ("twin",), ("attempt",), (None,), (5,), (True,), ([],), (Round(1),), (b"undo",),
            (("undo",),), ["undo"], ["put", "a", 1], "undo", None, 5, {"undo": 1},
        ]
        for deed in bad:
            with self.subTest(deed=deed):
                for before in [[], [("undo",), ("put", "z", 1)]]:
                    self.assertEqual(outcome(self.desk.attempt, *before, deed), ("InvalidInput", "deeds"))
                self.assertEqual(view(self.desk), self.before)
                # Its turn does not come after a refusal.
                self.check([("put", "a", 1), ("delete", "x"), deed], [0, "UnknownKey"])

    def test_arguments_are_not_changed(self):
        numbers = [2, 3]
        self.desk.attempt(("change", None, None, numbers), ("undo",))
        self.assertEqual(numbers, [2, 3])


class TestTwinAndRebuilt(unittest.TestCase):
    """[94]."""

    def test_a_twin_is_independent(self):
        desk = filled(6, 3, Round(1), "abc")
        desk.change(places=8)
        desk.undo()
        before = view(desk)
        twin = desk.twin()
        self.assertEqual(view(twin), before)
        twin.redo()
        twin.put("a", 9)
        twin.change(limit=4)
        self.assertEqual(view(desk), before)
        after = view(twin)
        desk.undo()
        desk.delete("a")
        self.assertEqual(view(twin), after)

    def test_a_twin_has_the_changed_terms(self):
        desk = filled(6, 2, Round(1), "ab")
        desk.change(places=3, limit=2, budgets=Round(1, 1, 5))
        self.assertEqual(view(desk.twin()), view(desk))

    def test_rebuilt(self):
        desk = filled(6, 3, Round(1), "abcab")
        desk.change(places=7, budgets=Round(0, 2, 1))
        desk.delete("b")
        desk.put("d", -4)
        desk.put("x", 1) if len(desk) < 3 else desk.put("d", 1)
        desk.undo()
        history = desk.history()
        again = Desk.rebuilt(6, 3, Round(1), history)
        self.assertEqual(picture_of(again, KEYS), picture_of(desk, KEYS))
        self.assertEqual(history, desk.history())
        self.assertEqual(outcome(again.redo), ("NothingToRedo", None))
        for _ in range(desk.steps):
            again.undo()
            desk.undo()
            self.assertEqual(picture_of(again, KEYS), picture_of(desk, KEYS))
        self.assertEqual(picture_of(Desk.rebuilt(6, 3, Round(1), []), KEYS), picture_of(Desk(6, 3, Round(1)), KEYS))
        self.assertEqual(desk.rebuilt(6, 3, Round(1), [("put", "a", 1, 0)]).table(), {"a": 1})

    def test_wrong_histories(self):
        good = [("put", "a", 1, 0), ("put", "b", 2, 0)]
        for deed, expected in [
            (("put", "a", 1, 1), ("InvalidInput", "history")), (("put", "a", 1, -1), ("InvalidInput", "history")),
            (("put", "a", 1, BIG), ("InvalidInput", "history")), (("delete", "a", 1), ("InvalidInput", "history")),
            (("delete", "x", 0), ("UnknownKey", "x")), (("delete", "x", 9), ("UnknownKey", "x")),
            (("put", "A", 1, 0), ("InvalidInput", "key")), (("put", "A", 1, 9), ("InvalidInput", "key")),
            (("change", 0, None, None), ("InvalidInput", "places")),
            (("change", None, 9, None), ("InvalidInput", "limit")),
            (("change", None, None, []), ("InvalidInput", "budgets")),
            (("change", None, 4, None), ("NotSafe", stall_paper("11", 5, 4, Round(1)))),
            (("change", None, None, [0]), ("NotSafe", stall_paper("11", 5, 3, Round(0)))),
        ]:
            with self.subTest(deed=deed):
                self.assertEqual(outcome(Desk.rebuilt, 5, 3, Round(1), good + [deed]), expected)
                self.assertEqual(outcome(Desk.rebuilt, 5, 3, Round(1), good + [deed, ("put", "a", 1, 7)]), expected)
        full = good + [("put", "c", 1, 0), ("put", "d", 1, 5)]
        self.assertEqual(outcome(Desk.rebuilt, 5, 3, Round(1), full), ("KeyLimit", 3))
        self.assertEqual(outcome(Desk.rebuilt, 5, 3, Round(1), good)[0], "done")

    def test_the_errors_of_the_constructor_go_through(self):
        history = [("put", "a", 1, 7)]
        broken = {"places": ZERO, "limit": ZERO, "budgets": [None, *NO_ROUNDS]}
        check_every_mix(self, Desk.rebuilt, {"places": 3, "limit": 2, "budgets": Round(1), "history": []}, broken)
        self.assertEqual(refused_field(Desk.rebuilt, 3, 4, Round(1), history), "limit")
        self.assertEqual(outcome(Desk.rebuilt, 3, 3, Round(1), history), ("NotSafe", stall_paper("", 3, 3, Round(1))))
        self.assertEqual(outcome(Desk.rebuilt, 3, 2, Round(1), history), ("InvalidInput", "history"))


class TestDrawnPlays(unittest.TestCase):
    """[89] to [94] against a model that searches the whole game."""

    def test_against_the_plain_model(self):
        for seed in range(120):
            self.play(seed)

    def play(self, seed):
        draw = random.Random(seed)
        row = draw.choice(ROUNDS)
        limit = draw.randrange(1, 4)
        places = min(6, least_places(limit, Round(*row)) + draw.randrange(2))
        limit = min(limit, greatest_limit(places, Round(*row)))
        desk, model = Desk(places, limit, Round(*row)), PlainDesk(places, limit, row)
        for turn in range(30):
            with self.subTest(seed=seed, turn=turn):
                self.assertEqual(*self.call(draw, desk, model))
                self.assertEqual(picture_of(desk, KEYS), model.picture(KEYS))
                if draw.random() < 0.1:
                    again = Desk.rebuilt(places, limit, Round(*row), desk.history())
                    self.assertEqual(picture_of(again, KEYS), model.picture(KEYS))
                    desk = desk.twin()

    def call(self, draw, desk, model):
        kind = draw.choice(["put"] * 5 + ["delete", "delete", "change", "undo", "undo", "redo", "attempt", "attempt"])
        if kind == "attempt":
            deeds = [self.deed(draw, draw.choice(["put", "put", "delete", "change", "undo", "redo", "odd"]))
                     for _ in range(draw.randrange(5))]
            return outcome(desk.attempt, *deeds), model_outcome(model.attempt, *deeds)
        deed = self.deed(draw, kind)
        if kind == "change":
            places, limit, numbers = deed[1:]
            budgets = None if numbers is None else Round(*numbers)
            return (outcome(desk.change, places=places, limit=limit, budgets=budgets),
                    model_outcome(model.change, places, limit, numbers))
        return outcome(getattr(desk, kind), *deed[1:]), model_outcome(getattr(model, kind), *deed[1:])

    def deed(self, draw, kind):
        key = draw.choice(KEYS[:4] * 5 + NO_KEYS)
        if kind == "put":
            return ("put", key, draw.randrange(100))
        if kind == "delete":
            return ("delete", key)
        if kind == "change":
            row = draw.choice([None, None, None, *ROUNDS])
            return ("change", draw.choice([None, None, 0, 3, 4, 5, 6]), draw.choice([None, None, 0, 1, 2, 3, 4]), row)
        if kind == "odd":
            return draw.choice([("put", key), ("change", None, None, []), ("change", None, None, [-1]), (), ("x", 1)])
        return (kind,)


class TestARingBesideIt(unittest.TestCase):
    """[89], [90]: the desk is a ring that is given these counts."""

    def test_the_same_deeds_on_a_ring(self):
        for seed in range(40):
            draw = random.Random(seed)
            row = draw.choice(ROUNDS)
            desk, ring = Desk(12, 4, Round(*row)), Ring(12, 4, Round(*row))
            for turn in range(60):
                key = draw.choice(KEYS[:4])
                if key in desk and draw.random() < 0.3:
                    ring.delete(key, desk.delete(key))
                else:
                    ring.put(key, turn, desk.put(key, turn))
                self.assertEqual((desk.word, desk.free, desk.phase), (ring.word, ring.free, ring.phase))
                self.assertEqual((desk.done, desk.carried, len(desk)), (ring.done, ring.carried, len(ring)))
                self.assertEqual(list(desk.table().items()), list(ring.table().items()))


if __name__ == "__main__":
    unittest.main()
