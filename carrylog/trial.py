"""Trials: keepers of the ring play against rows of moves, and against all of them."""

from carrylog.errors import InvalidInput
from carrylog.games import ring_moves, stepped
from carrylog.life import check_terms
from carrylog.words import release


def run_row(keeper, row, places, limit, budgets):
    """Return the words after each completed put of the row."""
    check_terms(places, limit, budgets)
    words = []
    state = ("", 0)
    for move in row:
        if move not in ring_moves(state[0], limit):
            raise InvalidInput("row")
        state = _played(keeper, state, move, places, budgets)
        if state is None:
            return words
        words.append(state[0])
    return words


def worst_row(keeper, places, limit, budgets):
    """Return the first of the shortest rows whose last put stalls, or None."""
    check_terms(places, limit, budgets)
    _, worst = _explored(keeper, places, limit, budgets)
    return worst


def standings(keeper, places, limit, budgets):
    """Return all (word, phase) that the keeper can meet, the shorter words first."""
    check_terms(places, limit, budgets)
    rows, _ = _explored(keeper, places, limit, budgets)
    return sorted(list(rows), key=lambda state: (len(state[0]), state))


def _explored(keeper, places, limit, budgets):
    """Return the first shortest row to each standing, and the first one that stalls, or None."""
    rows = {("", 0): []}
    worst = None
    fresh = [("", 0)]
    while len(fresh) > 0:
        # The rows to the fresh standings are of one length and ascend.
        found = []
        for state in fresh:
            for move in ring_moves(state[0], limit):
                row = rows[state] + [move]
                after = _played(keeper, state, move, places, budgets)
                if after is None:
                    worst = row if worst is None else worst
                elif after not in rows:
                    rows[after] = row
                    found.append(after)
        fresh = found
    return (rows, worst)


def _played(keeper, state, move, places, budgets):
    """Return the standing after the put of this move, or None if it stalls."""
    word, phase = state
    moment = word if move is None else release(word, move)
    count = keeper.choose(moment, places, budgets, phase)
    after = stepped(word, move, count, places, False)
    return None if after is None else (after, (phase + 1) % len(budgets))
