"""Keepers of the ring: how many records are carried in an early put."""

from carrylog.checks import check_least, consists_of
from carrylog.errors import BadRule, InvalidInput
from carrylog.life import safe
from carrylog.rounds import check_round
from carrylog.words import append_record, carry, check_word, living

NAMES = ("free", "living", "dead", "gap", "budget")
SIGNS = ("<=", ">=", "==")
MOST_DIGITS = 3


class Keeper:
    """A keeper that never carries."""

    def choose(self, word, places, budgets, phase):
        """Return how many records are carried at this carrying moment."""
        _check_moment(word, places, budgets, phase)
        return 0

    def label(self):
        """Return the name of the keeper."""
        return "rest"


class Greedy(Keeper):
    """Carries as many records as it may."""

    def choose(self, word, places, budgets, phase):
        """Return how many records are carried at this carrying moment."""
        _check_moment(word, places, budgets, phase)
        return most_carries(word, places, budgets, phase)

    def label(self):
        """Return the name of the keeper."""
        return "greedy"


class Lazy(Keeper):
    """Carries as many records as it may if at most `mark` places are free."""

    def __init__(self, mark):
        check_least(mark, 0, "mark")
        self._mark = mark

    @property
    def mark(self):
        """The greatest number of free places with which it carries."""
        return self._mark

    @mark.setter
    def mark(self, value):
        check_least(value, 0, "mark")
        self._mark = value

    def set_mark(self, mark):
        """Give the keeper another mark."""
        check_least(mark, 0, "mark")
        self._mark = mark

    def choose(self, word, places, budgets, phase):
        """Return how many records are carried at this carrying moment."""
        _check_moment(word, places, budgets, phase)
        if places - len(word) > self._mark:
            return 0
        return most_carries(word, places, budgets, phase)

    def label(self):
        """Return the name of the keeper with its present mark."""
        return f"lazy {self._mark}"


class Thrifty(Keeper):
    """Carries as few records as are needed to be safe with `limit` keys."""

    def __init__(self, limit):
        check_least(limit, 1, "limit")
        self._limit = limit

    def choose(self, word, places, budgets, phase):
        """Return how many records are carried at this carrying moment."""
        _check_moment(word, places, budgets, phase)
        return fewest_carries(word, places, self._limit, budgets, phase, "1")

    def label(self):
        """Return the name of the keeper with its limit."""
        return f"thrifty {self._limit}"


class RuleKeeper(Keeper):
    """Carries what the first line of a text says whose condition holds."""

    def __init__(self, text):
        self._rules = []
        for at, line in enumerate(text.split("\n")):
            words = line.split(" ")
            if not _is_when(words) and not _is_else(words):
                raise BadRule(at + 1)
            self._rules.append(words)

    def choose(self, word, places, budgets, phase):
        """Return how many records are carried at this carrying moment."""
        _check_moment(word, places, budgets, phase)
        facts = _facts(word, places, budgets, phase)
        most = most_carries(word, places, budgets, phase)
        for words in self._rules:
            if words[0] == "else" or _holds(facts[words[1]], words[2], int(words[3])):
                return most if words[-1] == "all" else min(most, int(words[-1]))
        return 0

    def label(self):
        """Return the name of the keeper with its number of lines."""
        return f"rule {len(self._rules)}"


def most_carries(word, places, budgets, phase):
    """Return the greatest number of carries at this carrying moment."""
    if len(word) == places:
        return 0
    return min(budgets.at(phase), living(word))


def fewest_carries(word, places, limit, budgets, phase, record):
    """Return the smallest number of carries after which the append of the record is safe.

    It is the greatest number that is allowed if no number does that.
    """
    most = most_carries(word, places, budgets, phase)
    for count in range(most):
        if _is_safe_after(word, places, limit, budgets, phase, record):
            return count
        word = carry(word, places)
    return most


def _is_safe_after(word, places, limit, budgets, phase, record):
    """Tell whether the standing after the append of the record is one, and safe."""
    after = append_record(word, places, record)
    if limit > places or living(after) > limit:
        return False
    return safe(after, places, limit, budgets, phase + 1)


def _check_moment(word, places, budgets, phase):
    check_word(word, "word")
    check_least(places, 1, "places")
    check_round(budgets)
    check_least(phase, 0, "phase")
    if len(word) > places:
        raise InvalidInput("places")


def _facts(word, places, budgets, phase):
    """Return the number that each name of a rule stands for."""
    behind = word[1:]
    return {
        "free": places - len(word),
        "living": living(word),
        "dead": word.count("0"),
        "gap": len(behind) - len(behind.lstrip("0")),
        "budget": budgets.at(phase),
    }


def _holds(number, sign, bound):
    if sign == "<=":
        return number <= bound
    if sign == ">=":
        return number >= bound
    return number == bound


def _is_when(words):
    """Tell whether the words of a line are a rule with a condition."""
    if len(words) != 6 or words[0] != "when" or words[4] != "carry":
        return False
    return words[1] in NAMES and words[2] in SIGNS and _is_number(words[3]) and _is_amount(words[5])


def _is_else(words):
    """Tell whether the words of a line are a rule without a condition."""
    return len(words) == 3 and words[0] == "else" and words[1] == "carry" and _is_amount(words[2])


def _is_number(text):
    return 1 <= len(text) <= MOST_DIGITS and consists_of(text, "0123456789")


def _is_amount(text):
    return text == "all" or _is_number(text)
