"""Rounds of budgets: how many records may be carried during each put."""

from carrylog.checks import check_least, is_whole
from carrylog.errors import InvalidInput


class Round:
    """A list of 1 to 12 budgets that repeats forever."""

    MOST = 12

    def __init__(self, *budgets):
        if not 1 <= len(budgets) <= Round.MOST:
            raise InvalidInput("budgets")
        for budget in budgets:
            check_least(budget, 0, "budgets")
        self._budgets = budgets

    @staticmethod
    def constant(budget):
        """Return the round of this one budget."""
        return Round(budget)

    @property
    def budgets(self):
        """The budgets as a new list."""
        return list(self._budgets)

    def __len__(self):
        return len(self._budgets)

    def __eq__(self, other):
        return isinstance(other, Round) and self._budgets == other._budgets

    def __add__(self, other):
        if not isinstance(other, Round):
            return NotImplemented
        both = self._budgets + other._budgets
        return Round(*both)

    def at(self, t):
        """Return the budget of put t."""
        check_least(t, 0, "t")
        return self._budgets[t % len(self._budgets)]

    def shifted(self, phase):
        """Return the round that starts at this position."""
        check_least(phase, 0, "phase")
        first = phase % len(self._budgets)
        turned = self._budgets[first:] + self._budgets[:first]
        return Round(*turned)

    def total(self, start, count):
        """Return the sum of the budgets of `count` puts from put `start` on."""
        check_least(start, 0, "start")
        check_least(count, 0, "count")
        whole, rest = divmod(count, len(self._budgets))
        first = start % len(self._budgets)
        # The rest may run over the end of the round, but at most once.
        twice = self._budgets + self._budgets
        return whole * sum(self._budgets) + sum(twice[first:first + rest])

    def least(self, count):
        """Return the smallest sum of `count` consecutive budgets."""
        check_least(count, 0, "count")
        return min(self._totals(count))

    def worst_start(self, count):
        """Return the first start at which `count` budgets have the smallest sum."""
        check_least(count, 0, "count")
        totals = self._totals(count)
        return totals.index(min(totals))

    def reach(self, need):
        """Return the smallest count whose smallest sum is at least `need`, or None."""
        if not is_whole(need):
            raise InvalidInput("need")
        if need <= 0:
            return 0
        once = sum(self._budgets)
        if once == 0:
            return None
        # Any whole round brings the same sum, wherever it starts. So all but
        # the last one are counted at once; what is left is within one round.
        whole = (need - 1) // once
        left = need - whole * once
        counts = range(1, len(self._budgets) + 1)
        enough = [count for count in counts if self.least(count) >= left]
        return whole * len(self._budgets) + enough[0]

    def _totals(self, count):
        return [self.total(start, count) for start in range(len(self._budgets))]


def check_round(budgets):
    """Refuse budgets that are not a Round."""
    if not isinstance(budgets, Round):
        raise InvalidInput("budgets")
