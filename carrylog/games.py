"""Small games: every state of a store, and how long the keeper can go on from it."""

from carrylog.checks import check_least
from carrylog.errors import NoPlace
from carrylog.life import check_terms
from carrylog.words import living, step


class Game:
    """What is the same for rings and segments; they tell states, moves and replies."""

    def successors(self, state):
        """Yield (move, replies) for each move of the opponent."""
        for move in self.moves(state):
            yield (move, self.replies(state, move))

    def lives(self):
        """Return the life of each state, worked out by search alone."""
        rows = {}
        for state in self.states():
            rows[state] = [replies for _, replies in self.successors(state)]
        found = {}
        turn = 0
        fallen = _falling(rows, found)
        while len(fallen) > 0:
            for state in fallen:
                found[state] = turn
            turn += 1
            fallen = _falling(rows, found)
        return {state: found.get(state) for state in rows}

    def count_states(self):
        """Return the number of states."""
        return len(self.states())


class RingGame(Game):
    """The game on a ring; a state is (word, phase)."""

    def __init__(self, places, limit, budgets, *, late=False):
        check_terms(places, limit, budgets)
        self._places = places
        self._limit = limit
        self._budgets = budgets
        self._late = late

    def states(self):
        """Return all states, the shorter words first."""
        phases = range(len(self._budgets))
        return [(word, phase) for word in _words(self._places, self._limit) for phase in phases]

    def opening(self):
        """Return the empty word with the phase 0."""
        return ("", 0)

    def moves(self, state):
        """Return None for a new key, if one may come, and the indexes of the ones."""
        return ring_moves(state[0], self._limit)

    def replies(self, state, move):
        """Return the states that the keeper can reach after the move."""
        word, phase = state
        after = (phase + 1) % len(self._budgets)
        # More carries than there are ones lead nowhere else.
        counts = range(min(self._budgets.at(phase), living(word)) + 1)
        words = [stepped(word, move, count, self._places, self._late) for count in counts]
        return sorted({(each, after) for each in words if each is not None})


class SegmentGame(Game):
    """The game on segments; a state is the summary of a store."""

    def __init__(self, segments, size, limit, budget, *, late=False):
        check_least(segments, 1, "segments")
        check_least(size, 1, "size")
        check_least(limit, 1, "limit")
        check_least(budget, 0, "budget")
        self._segments = segments
        self._size = size
        self._limit = limit
        self._budget = budget
        self._late = late
        # The states are found by a search, which is made when they are first asked for.
        self._found = None

    def states(self):
        """Return all summaries that puts can lead to, in ascending order."""
        if self._found is None:
            self._found = self._reached()
        return list(self._found)

    def opening(self):
        """Return the summary of the unwritten store."""
        return (0, 0, ())

    def moves(self, state):
        """Return what the opponent can put: a new key, or one in the head or a closed segment."""
        _, alive, closed = state
        rows = []
        if alive + sum(closed) < self._limit:
            rows.append(("new",))
        if alive > 0:
            rows.append(("head",))
        return rows + [("closed", count) for count in sorted(set(closed))]

    def replies(self, state, move):
        """Return the summaries that the keeper can reach after the move."""
        if not self._late:
            after = [self._after_write(each) for each in self._after_carries(_released(state, move))]
            return sorted({each for each in after if each is not None})
        moment = self._after_write(state)
        if moment is None:
            return []
        if move == ("head",) and state[0] == self._size:
            # The write has closed the full head with the record in it.
            return sorted(self._after_carries(_without(moment, state[1])))
        return sorted(self._after_carries(_released(moment, move)))

    def _reached(self):
        met = {self.opening(): True}
        fresh = [self.opening()]
        while len(fresh) > 0:
            found = {}
            for state in fresh:
                for _, replies in self.successors(state):
                    for reply in replies:
                        found[reply] = True
            fresh = [state for state in found if state not in met]
            for state in fresh:
                met[state] = True
        return sorted(list(met))

    def _after_write(self, state):
        """Return the summary after one write, or None if there is no place."""
        written, alive, closed = state
        if written < self._size:
            return (written + 1, alive + 1, closed)
        if len(closed) + 1 == self._segments:
            return None
        return (1, 1, tuple(sorted([*closed, alive])))

    def _after_carries(self, moment):
        """Return all summaries after at most as many carries as the budget allows."""
        met = {moment: True}
        fresh = [moment]
        carried = 0
        while carried < self._budget and len(fresh) > 0:
            found = {}
            for state in fresh:
                copied = self._after_write(state)
                if copied is not None:
                    for count in sorted(set(state[2])):
                        found[_without(copied, count)] = True
            fresh = [state for state in found if state not in met]
            for state in fresh:
                met[state] = True
            carried += 1
        return list(met)


def ring_moves(word, limit):
    """Return the opponent's moves on a ring: None for a new key, and the indexes."""
    ones = living(word)
    indexes = list(range(ones))
    return [None] + indexes if ones < limit else indexes


def stepped(word, index, count, places, late):
    """Return the word after a whole put, or None if it stalls."""
    try:
        return step(word, index, count, places, late=late)
    except NoPlace:
        return None


def _falling(rows, found):
    """Return the states that fall now: some move leads only to states that fell before."""
    left = [state for state in rows if state not in found]
    return [state for state in left if any([_is_lost(replies, found) for replies in rows[state]])]


def _is_lost(replies, found):
    return all([reply in found for reply in replies])


def _words(places, limit):
    """Return the words with so many places and ones, the shorter ones first."""
    words = [""]
    longest = ["1"]
    for _ in range(places):
        words = words + longest
        longer = [word + mark for word in longest for mark in "01"]
        longest = [word for word in longer if living(word) <= limit]
    return words


def _released(state, move):
    """Return the summary without the old record of the key that the move puts."""
    written, alive, closed = state
    if move == ("new",):
        return state
    if move != ("head",):
        return _without(state, move[1])
    # A head in which nothing lives is freed and stays the head.
    return (written, alive - 1, closed) if alive > 1 else (0, 0, closed)


def _without(state, count):
    """Return the summary with one record less in a closed segment that has so many."""
    written, alive, closed = state
    rest = list(closed)
    rest.remove(count)
    if count > 1:
        rest.append(count - 1)
    return (written, alive, tuple(sorted(rest)))
