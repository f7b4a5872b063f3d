"""The store of segments: a segment is freed as a whole when nothing in it lives."""

from carrylog.checks import check_key, check_least
from carrylog.errors import BadChoice, InvalidInput, KeyLimit, Stalled, UnknownKey
from carrylog.floor import Floor, living_records


class Segments:
    """A store of `segments` segments of `size` places that keeps at most `limit` keys."""

    def __init__(self, segments, size, limit, budget, *, late=False):
        check_least(segments, 1, "segments")
        check_least(size, 1, "size")
        check_least(limit, 1, "limit")
        check_least(budget, 0, "budget")
        self._segments = segments
        self._size = size
        self._limit = limit
        self._budget = budget
        self._late = late
        self._floor = Floor(segments, size)
        self._done = 0
        self._carried = 0
        self._last_wait = 0

    @property
    def segments(self):
        """The number of segments."""
        return self._segments

    @property
    def size(self):
        """The number of places of each segment."""
        return self._size

    @property
    def limit(self):
        """The greatest number of living keys."""
        return self._limit

    @property
    def budget(self):
        """The greatest number of records carried in one put."""
        return self._budget

    @property
    def late(self):
        """True if a put first writes the new record."""
        return self._late

    @property
    def head(self):
        """The number of the head."""
        return self._floor.front

    @property
    def room(self):
        """The number of places that can be written before a segment must be freed."""
        rows = self._floor.rows
        fresh = [row for at, row in enumerate(rows) if len(row) == 0 and at != self._floor.front]
        return self._size - len(rows[self._floor.front]) + self._size * len(fresh)

    @property
    def done(self):
        """The number of completed puts."""
        return self._done

    @property
    def carried(self):
        """The number of records carried so far."""
        return self._carried

    @property
    def last_wait(self):
        """The number of records carried by the last put."""
        return self._last_wait

    def __len__(self):
        return len(living_records(self._floor.rows))

    def __contains__(self, x):
        return x in [key for key, _ in living_records(self._floor.rows)]

    def read(self, key):
        """Return the value of the living record of the key."""
        for each, value in living_records(self._floor.rows):
            if each == key:
                return value
        raise UnknownKey(key)

    def table(self):
        """Return the value of each living key, by segment and then by place."""
        return {key: value for key, value in living_records(self._floor.rows)}

    def written(self, segment):
        """Return the number of written places of the segment."""
        self._check_segment(segment)
        return len(self._floor.rows[segment])

    def living(self, segment):
        """Return the number of living records of the segment."""
        self._check_segment(segment)
        return self._floor.live_count(segment)

    def freed(self, segment):
        """Return how often the segment has been freed."""
        self._check_segment(segment)
        return self._floor.times_freed[segment]

    def closed(self):
        """Return the closed segments in ascending order."""
        return self._floor.closed()

    def closed_by_age(self):
        """Return the closed segments, the one that became the head first in front."""
        return self._floor.closed_by_age()

    def picture(self):
        """Return for each segment the keys of its places, None for a dead record."""
        return [[None if record is None else record[0] for record in row] for row in self._floor.rows]

    def summary(self):
        """Return the written and living numbers of the head and the closed living counts."""
        floor = self._floor
        counts = sorted([floor.live_count(segment) for segment in floor.closed()])
        return (len(floor.rows[floor.front]), floor.live_count(floor.front), tuple(counts))

    def put(self, key, value, *choices):
        """Put a record and carry a record of each chosen segment, in their order."""
        check_key(key)
        if self._is_over_limit(key):
            raise KeyLimit(self._limit)
        if len(choices) > self._budget:
            raise BadChoice(len(choices))
        floor = self._floor_at_moment(key, value)
        if floor is None:
            raise Stalled(self._done)
        for choice in choices:
            if choice not in floor.closed() or not floor.has_place():
                raise BadChoice(choice)
            floor.carry(choice)
        if not self._late:
            if not floor.has_place():
                raise Stalled(self._done)
            floor.write((key, value))
        self._floor = floor
        self._done += 1
        self._carried += len(choices)
        self._last_wait = len(choices)

    def delete(self, key):
        """Make the record of the key dead."""
        found = self._floor.place_of(key)
        if found is None:
            raise UnknownKey(key)
        self._floor.release(found[0], found[1])

    def twin(self):
        """Return an independent copy."""
        other = Segments(self._segments, self._size, self._limit, self._budget, late=self._late)
        other._floor = self._floor.copied()
        other._done = self._done
        other._carried = self._carried
        other._last_wait = self._last_wait
        return other

    def carrying_floor(self, key):
        """Return a copy of the floor at the carrying moment of a put of the key.

        It is None if the put comes to no such moment: it would be a key too
        many, or a late put without a place for the new record.
        """
        if self._is_over_limit(key):
            return None
        return self._floor_at_moment(key, 0)

    def write_place(self):
        """Return the segment that takes the next write, or None if there is no place."""
        return self._floor.next_front() if self._floor.has_place() else None

    def _is_over_limit(self, key):
        return key not in self and len(self) >= self._limit

    def _floor_at_moment(self, key, value):
        floor = self._floor.copied()
        old = floor.place_of(key)
        if self._late:
            if not floor.has_place():
                return None
            floor.write((key, value))
        if old is not None:
            floor.release(old[0], old[1])
        return floor

    def _check_segment(self, segment):
        check_least(segment, 0, "segment")
        if segment >= self._segments:
            raise InvalidInput("segment")
