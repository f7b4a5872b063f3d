"""carrylog.keepers: promises [78] to [81], and [3] to [5] for them."""

import random
import re
import unittest
from functools import lru_cache
from itertools import product

from carrylog.keepers import Greedy, Keeper, Lazy, RuleKeeper, Thrifty
from carrylog.life import safe
from carrylog.ring import Ring
from carrylog.rounds import Round
from carrylog.sums import greatest_limit, least_free, ring_goes_on
from carrylog.trial import worst_row
from carrylog.words import append_record, carries
from tests.games import all_words, carried, ring_lives
from tests.outcomes import outcome
from tests.refusing import check_every_mix, refused_field

BIG = 10 ** 30
MINUS, ZERO = [-1, -BIG], [0, -1, -BIG]
NO_WORDS = ["0", "01", "2", "1x"]
NO_ROUNDS = [None, 1, [1], (1, 2)]
ROUNDS = [[0], [1], [2], [BIG], [0, 1], [2, 0], [3, 0, 1]]
LINE = re.compile("(?:when (free|living|dead|gap|budget) (<=|>=|==) ([0-9]{1,3})|else) carry (all|[0-9]{1,3})")
TEXTS = ["when free <= 2 carry all\nelse carry 1", "when gap >= 1 carry 2\nwhen dead == 0 carry 0\nelse carry all"]


def keepers():
    return [Keeper(), Greedy(), Lazy(0), Lazy(2), Thrifty(3), *[RuleKeeper(text) for text in TEXTS]]


def moments(most):
    """(word, places, row, phase) for small rings, words that fill all places among them."""
    for places, row in product(range(1, most + 1), ROUNDS):
        for word, phase in product(all_words(places), range(len(row))):
            yield word, places, row, phase


def allowed(word, places, row, phase):
    """The greatest count that [78] allows."""
    return 0 if len(word) == places else min(row[phase % len(row)], word.count("1"))


@lru_cache(maxsize=None)
def plain_lives(places, limit, row):
    return ring_lives(places, limit, list(row), False)


def plain_thrifty(word, places, limit, row, phase):
    """[79], with lives that are searched."""
    most = allowed(word, places, row, phase)
    found = plain_lives(places, limit, tuple(row))
    after = (phase + 1) % len(row)
    for count in range(most + 1):
        moved = carried(word, count, places)[-1]
        if len(moved) < places and found[moved + "1", after] is None:
            return count
    return most


def plain_rule(text, word, places, row, phase):
    """[81]: the count of a rule text, each of whose lines is good."""
    gap = len(word) - 1 - len(word[1:].lstrip("0")) if word else 0
    facts = {
        "free": places - len(word), "living": word.count("1"), "dead": word.count("0"), "gap": gap,
        "budget": row[phase % len(row)],
    }
    amount = 0
    for line in text.split("\n"):
        name, sign, number, told = LINE.fullmatch(line).groups()
        if name is None or {"<=": facts[name] <= int(number), ">=": facts[name] >= int(number),
                            "==": facts[name] == int(number)}[sign]:
            amount = BIG ** 2 if told == "all" else int(told)
            break
    return min(amount, allowed(word, places, row, phase))


class TestChoices(unittest.TestCase):
    """[78], [79], [80]."""

    def test_keeper_and_greedy(self):
        for word, places, row, phase in moments(6):
            for more in [0, len(row) * 7]:
                self.assertEqual(Keeper().choose(word, places, Round(*row), phase + more), 0)
                expected = allowed(word, places, row, phase)
                self.assertEqual(Greedy().choose(word, places, Round(*row), phase + more), expected)

    def test_every_choice_is_allowed(self):
        for word, places, row, phase in moments(5):
            for keeper in keepers():
                count = keeper.choose(word, places, Round(*row), phase)
                self.assertTrue(0 <= count <= allowed(word, places, row, phase), (keeper.label(), word, places))

    def test_edges(self):
        for keeper in keepers():
            self.assertEqual(keeper.choose("", 1, Round(9), 0), 0)
            self.assertEqual(keeper.choose("101", 3, Round(9), 0), 0)
            self.assertEqual(keeper.choose("101", 5, Round(0), 3), 0)
            self.assertEqual(keeper.choose("101", 5, Round(9, 0), 7), 0)
            self.assertEqual(keeper.choose("1" * 64, 64, Round(BIG), 10 ** 6), 0)
        self.assertEqual(Greedy().choose("1010", 5, Round(0, 2), 10 ** 6 + 1), 2)
        self.assertEqual(Greedy().choose(word="1", places=2, budgets=Round(BIG), phase=0), 1)

    def test_lazy(self):
        for word, places, row, phase in moments(5):
            for mark in [0, 1, 2, 3, 5, 9, 10 ** 31]:
                expected = allowed(word, places, row, phase) if places - len(word) <= mark else 0
                self.assertEqual(Lazy(mark).choose(word, places, Round(*row), phase), expected)

    def test_marks(self):
        lazy = Lazy(3)
        self.assertEqual((lazy.mark, lazy.label(), lazy.choose("11", 5, Round(2), 0)), (3, "lazy 3", 2))
        lazy.mark = 2
        self.assertEqual((lazy.mark, lazy.label(), lazy.choose("11", 5, Round(2), 0)), (2, "lazy 2", 0))
        self.assertIsNone(lazy.set_mark(0))
        self.assertEqual((lazy.mark, lazy.label(), lazy.choose("1111", 5, Round(2), 0)), (0, "lazy 0", 0))
        lazy.mark = 3
        lazy.mark = 0
        self.assertEqual((lazy.mark, lazy.label(), lazy.choose("11", 3, Round(2), 0)), (0, "lazy 0", 0))
        lazy.mark = 10 ** 31
        self.assertEqual((lazy.mark, lazy.label()), (10 ** 31, f"lazy {10 ** 31}"))
        self.assertEqual(lazy.choose("11", 50, Round(2), 0), 2)
        for mark in MINUS:
            self.assertEqual(refused_field(Lazy, mark), "mark")
            self.assertEqual(refused_field(lazy.set_mark, mark), "mark")
            self.assertEqual(refused_field(setattr, lazy, "mark", mark), "mark")
            self.assertEqual((lazy.mark, lazy.label()), (10 ** 31, f"lazy {10 ** 31}"))

    def test_labels(self):
        self.assertEqual([keeper.label() for keeper in keepers()],
                         ["rest", "greedy", "lazy 0", "lazy 2", "thrifty 3", "rule 2", "rule 3"])
        self.assertEqual(Thrifty(10 ** 31).label(), f"thrifty {10 ** 31}")
        self.assertEqual(RuleKeeper("else carry 1").label(), "rule 1")

    def test_subclasses(self):
        for each in [Greedy, Lazy, Thrifty, RuleKeeper]:
            self.assertTrue(issubclass(each, Keeper))


class TestThrifty(unittest.TestCase):
    """[79]."""

    def test_against_lives_that_are_searched(self):
        for word, places, row, phase in moments(5):
            for limit in range(word.count("1") + 1, places + 1):
                if max(row) <= 9:
                    expected = plain_thrifty(word, places, limit, row, phase)
                    self.assertEqual(Thrifty(limit).choose(word, places, Round(*row), phase), expected)
                    again = Thrifty(limit).choose(word, places, Round(*row), phase + len(row) * 5)
                    self.assertEqual(again, expected)

    def test_no_number_makes_it_safe(self):
        self.assertEqual(Thrifty(4).choose("110", 5, Round(2), 0), 2)
        self.assertEqual(Thrifty(2).choose("1000", 5, Round(0, 1), 1), 1)
        # A word or a limit beyond the size is not refused, and no such standing is safe.
        self.assertEqual(Thrifty(2).choose("111", 9, Round(2), 0), 2)
        self.assertEqual(Thrifty(9).choose("111", 5, Round(2), 0), 2)
        self.assertEqual(Thrifty(10 ** 31).choose("1", 5, Round(BIG), 0), 1)

    def test_a_safe_store_stays_safe(self):
        for seed in range(60):
            draw = random.Random(seed)
            places, row = draw.randrange(3, 20), draw.choice(ROUNDS)
            limit = max(1, greatest_limit(places, Round(*row)) - draw.randrange(2))
            ring, keeper = Ring(places, limit, Round(*row)), Thrifty(limit)
            for _ in range(60):
                key = self.next_key(draw, ring)
                trial = ring.twin()
                count = keeper.choose(self.released(ring, key), places, ring.budgets, ring.phase)
                trial.put(key, 0, count)
                self.assertTrue(safe(trial.word, places, limit, ring.budgets, trial.phase))
                if count > 0:
                    fewer = ring.twin()
                    fewer.put(key, 0, count - 1)
                    self.assertFalse(safe(fewer.word, places, limit, ring.budgets, fewer.phase))
                ring = trial

    def next_key(self, draw, ring):
        alive = list(ring.table())
        if len(alive) < ring.limit:
            return draw.choice([key for key in [f"k{number}" for number in range(20)] if key not in ring])
        return alive[-1] if draw.random() < 0.5 else draw.choice(alive)

    def released(self, ring, key):
        text = "".join("1" if entry and entry[0] != key else "0" for entry in ring.log())
        return text.lstrip("0")

    def test_the_sizes(self):
        budgets = Round(2, 0, 5, 1, 1, 1, 1, 0, 3, 1, 1, 1)
        word = "1" * 30 + "0" * 20
        count = Thrifty(40).choose(word, 64, budgets, 10 ** 6)
        phase = 10 ** 6 + 1
        most = Greedy().choose(word, 64, budgets, 10 ** 6)
        good = [safe(append_record(carries(word, many, 64), 64), 64, 40, budgets, phase) for many in range(most + 1)]
        self.assertEqual(count, good.index(True) if True in good else most)


class TestLazyNeverStalls(unittest.TestCase):
    """[80]: exactly if the mark is at least `least_free`."""

    def test_small_rings(self):
        checked = 0
        for places, row in product(range(1, 7), [[0], [1], [2], [4], [0, 1], [2, 0], [1, 0, 3]]):
            for limit in range(1, min(places, 4) + 1):
                budgets = Round(*row)
                if ring_goes_on(places, limit, budgets):
                    enough = least_free(limit, budgets)
                    for mark in range(places + 2):
                        checked += 1
                        worst = worst_row(Lazy(mark), places, limit, budgets)
                        self.assertIs(worst is None, mark >= enough, (places, limit, row, mark))
        self.assertGreater(checked, 200)


class TestRules(unittest.TestCase):
    """[81]."""

    def check(self, text, counts, row=(9,), places=8):
        """The counts for the words 110, 1001 and the empty one."""
        keeper = RuleKeeper(text)
        found = [keeper.choose(word, places, Round(*row), 0) for word in ["110", "1001", ""]]
        self.assertEqual(found, counts, text)

    def test_each_name(self):
        self.check("when free == 5 carry 1", [1, 0, 0])
        self.check("when living == 2 carry 1", [1, 1, 0])
        self.check("when dead == 1 carry 1", [1, 0, 0])
        self.check("when gap == 2 carry 1", [0, 1, 0])
        self.check("when gap == 0 carry 1", [1, 0, 0])
        self.check("when budget == 9 carry 1", [1, 1, 0])
        self.check("when budget == 8 carry 1", [0, 0, 0])
        keeper = RuleKeeper("when budget >= 2 carry 1\nwhen gap >= 1 carry 2")
        self.assertEqual([keeper.choose("101", 5, Round(0, 3), phase) for phase in range(4)], [0, 1, 0, 1])

    def test_each_operator(self):
        for number, at_most, at_least, equal in [(1, 0, 1, 0), (2, 1, 1, 1), (3, 1, 0, 0)]:
            self.check(f"when living <= {number} carry 1", [at_most, at_most, 0])
            self.check(f"when living >= {number} carry 1", [at_least, at_least, 0])
            self.check(f"when living == {number} carry 1", [equal, equal, 0])

    def test_amounts(self):
        self.check("else carry all", [2, 2, 0])
        self.check("else carry 1", [1, 1, 0])
        self.check("else carry 999", [2, 2, 0])
        self.check("else carry 000", [0, 0, 0])
        self.check("else carry all", [1, 1, 0], row=(1,))
        self.check("else carry 2", [1, 1, 0], row=(1,))
        self.check("else carry all", [2, 0, 0], places=4)

    def test_leading_zeros(self):
        self.check("when living == 002 carry 001", [1, 1, 0])
        self.check("when gap == 00 carry 01", [1, 0, 0])

    def test_the_first_line_that_holds_decides(self):
        self.check("when gap >= 1 carry 0\nwhen living >= 1 carry 1\nelse carry all", [1, 0, 0])
        self.check("else carry 1\nwhen living >= 1 carry all\nelse carry all", [1, 1, 0])
        self.check("when living >= 3 carry 1\nwhen dead >= 3 carry all", [0, 0, 0])

    def test_bad_lines(self):
        good = "when free <= 2 carry all"
        bad = [
            "", " ", "else", "else carry", "else carry all ", " else carry all", "else  carry all", "else carry  all",
            "else carry 1000", "else carry -1", "else carry +1", "else carry one", "else carry ALL", "Else carry all",
            "else carries all", "else carry all all", "else carry \u0661", "else carry 1.", "else carry", "carry all",
            "when free <= 2 carry", "when free <= 2", "when free < 2 carry all", "when free = 2 carry all",
            "when free => 2 carry all", "when free != 2 carry all", "when free <= 1000 carry all",
            "when free <= -1 carry all", "when free <= all carry all", "when free <= carry all",
            "when full <= 2 carry all", "when Free <= 2 carry all", "when free<=2 carry all",
            "when  free <= 2 carry all", "when free <= 2  carry all", "when free <= 2 carry all\r",
            "when free <= 2 carry all\t", "when\tfree <= 2 carry all", "when free <= 2 carry 1000",
            "when free <= \u0662 carry all", "when free <= 2 and carry all", "when free <= 2 carry all else carry 1",
            "if free <= 2 carry all", "when else <= 2 carry all", "# a comment", "else carry all\x0b",
            "else carry all\u2028", "when free <= 2 take all", "else take all", "when free <= 2 carry",
        ]
        for line in bad:
            with self.subTest(line=line):
                self.assertEqual(outcome(RuleKeeper, line), ("BadRule", 1))
                self.assertEqual(outcome(RuleKeeper, f"{good}\n{line}"), ("BadRule", 2))
                self.assertEqual(outcome(RuleKeeper, f"{good}\n{line}\nx\n{good}"), ("BadRule", 2))

    def test_empty_texts_and_line_feeds(self):
        self.assertEqual(outcome(RuleKeeper, ""), ("BadRule", 1))
        self.assertEqual(outcome(RuleKeeper, "\n"), ("BadRule", 1))
        self.assertEqual(outcome(RuleKeeper, "else carry all\n"), ("BadRule", 2))
        self.assertEqual(outcome(RuleKeeper, "else carry all\n\nelse carry all"), ("BadRule", 2))
        self.assertEqual(outcome(RuleKeeper, "\nelse carry all"), ("BadRule", 1))

    def test_drawn_texts(self):
        for seed in range(80):
            draw = random.Random(seed)
            text = "\n".join(self.drawn_line(draw) for _ in range(draw.randrange(1, 5)))
            keeper = RuleKeeper(text)
            self.assertEqual(keeper.label(), f"rule {len(text.splitlines())}")
            for word, places, row, phase in moments(4):
                expected = plain_rule(text, word, places, row, phase)
                self.assertEqual(keeper.choose(word, places, Round(*row), phase), expected, (text, word, places, row))

    def drawn_line(self, draw):
        amount = draw.choice(["all", "0", "1", "02", "3", "999"])
        if draw.random() < 0.2:
            return f"else carry {amount}"
        name = draw.choice(["free", "living", "dead", "gap", "budget"])
        return f"when {name} {draw.choice(['<=', '>=', '=='])} {draw.choice(['0', '1', '2', '003'])} carry {amount}"

    def test_drawn_changes_of_a_text(self):
        for seed in range(300):
            draw = random.Random(seed)
            text = list("\n".join(self.drawn_line(draw) for _ in range(draw.randrange(1, 4))))
            for _ in range(draw.randrange(1, 3)):
                at = draw.randrange(len(text))
                text[at:at + draw.randrange(2)] = draw.choice(["", " ", "\n", "0", "1", "e", "=", "all"])
            text = "".join(text)
            bad = [at + 1 for at, line in enumerate(text.split("\n")) if not LINE.fullmatch(line)]
            expected = ("BadRule", bad[0]) if bad else "done"
            found = outcome(RuleKeeper, text)
            self.assertEqual(found if bad else found[0], expected, text)


class TestRefusals(unittest.TestCase):
    """[5]."""

    def test_of_choose(self):
        good = {"word": "101", "places": 5, "budgets": Round(1), "phase": 0}
        broken = {"word": NO_WORDS, "places": ZERO, "budgets": NO_ROUNDS, "phase": MINUS}
        for keeper in keepers():
            check_every_mix(self, keeper.choose, good, broken)
            self.assertEqual(refused_field(keeper.choose, "1010", 3, Round(1), 0), "places")
            self.assertEqual(refused_field(keeper.choose, "1010", 3, Round(1), -1), "phase")
            self.assertEqual(refused_field(keeper.choose, "1010", 3, None, 0), "budgets")
            self.assertIsNone(refused_field(keeper.choose, "1010", 4, Round(1), 0))

    def test_of_the_constructors(self):
        for limit in ZERO:
            self.assertEqual(refused_field(Thrifty, limit), "limit")
        for mark in MINUS:
            self.assertEqual(refused_field(Lazy, mark), "mark")
        self.assertIsNone(refused_field(Thrifty, 10 ** 31))
        self.assertIsNone(refused_field(Lazy, 10 ** 31))


if __name__ == "__main__":
    unittest.main()
