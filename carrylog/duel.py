"""The duel over segments: keepers choose what is carried, an opponent what is put."""

from carrylog.checks import check_least
from carrylog.errors import Stalled
from carrylog.sums import divided_up


def can_empty(written, fewest, budget, size):
    """Tell whether a segment with so many living records is empty before the head is full."""
    check_least(written, 0, "written")
    check_least(fewest, 0, "fewest")
    check_least(budget, 0, "budget")
    check_least(size, 1, "size")
    if fewest == 0:
        return True
    if budget == 0:
        return False
    return written + fewest + divided_up(fewest, budget) - 1 <= size


class SegmentKeeper:
    """A keeper that never carries."""

    def choices(self, store, key):
        """Return that nothing is chosen for a put of the key."""
        return []


class Fewest(SegmentKeeper):
    """Empties the segment with the fewest living records when no other is unwritten."""

    def choices(self, store, key):
        """Return the segments to choose for a put of the key."""
        return picked(self, store, key)

    def pick(self, floor):
        """Return the closed segment with the fewest living records while none is unwritten."""
        if len(floor.unwritten()) > 0:
            return None
        closed = floor.closed()
        counts = [floor.live_count(segment) for segment in closed]
        return closed[counts.index(min(counts))]


class Oldest(SegmentKeeper):
    """Empties the segment that became the head before all others."""

    def choices(self, store, key):
        """Return the segments to choose for a put of the key."""
        return picked(self, store, key)

    def pick(self, floor):
        """Return the closed segment that became the head first."""
        return floor.closed_by_age()[0]


class Scripted(SegmentKeeper):
    """Picks by a list of numbers; 0 stops, and so does the end of the list."""

    def __init__(self, numbers):
        for number in numbers:
            check_least(number, 0, "numbers")
        self._numbers = list(numbers)
        self._used = 0

    @property
    def used(self):
        """How many numbers of the list were taken."""
        return self._used

    def choices(self, store, key):
        """Return the segments to choose for a put of the key."""
        return picked(self, store, key)

    def pick(self, floor):
        """Take the next number and return the closed segment that it means."""
        if self._used == len(self._numbers):
            return None
        number = self._numbers[self._used]
        self._used += 1
        if number == 0:
            return None
        closed = floor.closed()
        return closed[(number - 1) % len(closed)]


class Opponent:
    """Chooses keys so that every keeper stalls if the limit is too great."""

    def __init__(self, limit):
        check_least(limit, 1, "limit")
        self._limit = limit
        self._second = False
        # For each segment how often it had been freed at its last counted
        # release, and the releases counted up to then since it was freed.
        self._counted = {}

    @property
    def second(self):
        """True in the second phase."""
        return self._second

    def next_key(self, store):
        """Return the next key to put, and count its release."""
        head = store.write_place() if store.late else store.head
        if head is None:
            # The put stalls whatever it puts, so no release comes about.
            segment, place = first_living(store.picture())
            return store.picture()[segment][place]
        if len(store) < self._limit:
            return first_free_key(store)
        segment, place = self._target(store, head)
        self._counted[segment] = (store.freed(segment), self.released(store, segment) + 1)
        return store.picture()[segment][place]

    def released(self, store, segment):
        """Return the releases counted in the segment since it was freed last."""
        # The store refuses what is no number of a segment.
        times_freed = store.freed(segment)
        counted_at, count = self._counted.get(segment, (times_freed, 0))
        return count if counted_at == times_freed else 0

    def debt(self, store):
        """Return the written places less budget + 1 for each counted release."""
        numbers = range(store.segments)
        releases = sum([self.released(store, segment) for segment in numbers])
        return sum([store.written(segment) for segment in numbers]) - (store.budget + 1) * releases

    def _target(self, store, head):
        """Return (segment, place) of the record to be released."""
        picture = store.picture()
        if not self._second:
            for segment, row in enumerate(picture):
                places = living_places(row)
                if len(places) > 0 and self._is_ripe(store, segment, head):
                    return (segment, places[0])
            self._second = True
        places = living_places(picture[head])
        if len(places) > 0:
            return (head, places[-1])
        return first_living(picture)

    def _is_ripe(self, store, segment, head):
        """Tell whether one more release leaves the segment more written than released."""
        written = store.written(segment)
        if store.late and segment == head:
            # The late put writes before it releases.
            written += 1
        return (store.budget + 1) * (self.released(store, segment) + 1) < written


def stall_bound(segments, size, limit, count):
    """Return how many puts are completed at most when the limit is too great."""
    check_least(segments, 1, "segments")
    check_least(size, 1, "size")
    check_least(limit, 1, "limit")
    check_least(count, 0, "count")
    return limit - count + segments * size * (size + 1) + size


def run_duel(store, keeper, opponent, most):
    """Play at most `most` puts; return the completed ones and whether a put stalled."""
    check_least(most, 0, "most")
    rows = []
    for _ in range(most):
        key = opponent.next_key(store)
        choices = keeper.choices(store, key)
        try:
            store.put(key, 0, *choices)
        except Stalled:
            return (rows, True)
        rows.append((key, choices))
    return (rows, False)


def picked(keeper, store, key):
    """Return what the keeper picks, one closed segment after the other."""
    floor = store.carrying_floor(key)
    rows = []
    if floor is None:
        return rows
    while len(rows) < store.budget and len(floor.closed()) > 0 and floor.has_place():
        segment = keeper.pick(floor)
        if segment is None:
            return rows
        floor.carry(segment)
        rows.append(segment)
    return rows


def living_places(row):
    """Return the places of a row of a picture that hold a living record."""
    return [place for place, key in enumerate(row) if key is not None]


def first_living(picture):
    """Return (segment, place) of the first living record; there must be one."""
    alive = [segment for segment, row in enumerate(picture) if len(living_places(row)) > 0]
    return (alive[0], living_places(picture[alive[0]])[0])


def first_free_key(store):
    """Return the first of k0, k1, k2, .. that does not live."""
    number = 0
    while f"k{number}" in store:
        number += 1
    return f"k{number}"
