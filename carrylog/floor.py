"""The places of a store of segments: what is written where.

A floor knows neither limit, budget nor order; the store and those who try out
carries before a put work on it alike.
"""


class Floor:
    """Segments of equal width; each written place holds (key, value), or None if dead."""

    def __init__(self, segments, width):
        self.width = width
        self.rows = [[] for _ in range(segments)]
        self.front = 0
        self.times_freed = [0 for _ in range(segments)]
        # The segments in the order in which they last became the head.
        self.fronts = [0]

    def copied(self):
        """Return an independent copy."""
        other = Floor(len(self.rows), self.width)
        other.rows = [list(row) for row in self.rows]
        other.front = self.front
        other.times_freed = list(self.times_freed)
        other.fronts = list(self.fronts)
        return other

    def live_count(self, segment):
        """Return the number of living records in the segment."""
        return len(living_records([self.rows[segment]]))

    def unwritten(self):
        """Return the unwritten segments in ascending order."""
        return [segment for segment, row in enumerate(self.rows) if len(row) == 0]

    def closed(self):
        """Return the closed segments in ascending order."""
        # What holds no living record is freed, so a written segment is alive.
        return [segment for segment, row in enumerate(self.rows) if len(row) > 0 and segment != self.front]

    def closed_by_age(self):
        """Return the closed segments in the order in which they became the head."""
        closed = self.closed()
        return [segment for segment in self.fronts if segment in closed]

    def is_full(self):
        """Tell whether all places of the head are written."""
        return len(self.rows[self.front]) == self.width

    def has_place(self):
        """Tell whether a record can be written."""
        return not self.is_full() or len(self.unwritten()) > 0

    def next_front(self):
        """Return the segment that takes the next write; there must be a place."""
        return self.unwritten()[0] if self.is_full() else self.front

    def write(self, record):
        """Write (key, value) to the next place; there must be one."""
        segment = self.next_front()
        if segment != self.front:
            self.front = segment
            self.fronts = [each for each in self.fronts if each != segment] + [segment]
        self.rows[segment].append(record)

    def place_of(self, key):
        """Return (segment, place) of the living record of the key, or None."""
        for segment, row in enumerate(self.rows):
            for place, record in enumerate(row):
                if record is not None and record[0] == key:
                    return (segment, place)
        return None

    def release(self, segment, place):
        """Make the record at this place dead, which may free its segment."""
        self.rows[segment][place] = None
        if self.live_count(segment) == 0:
            self.rows[segment] = []
            self.times_freed[segment] += 1

    def carry(self, segment):
        """Copy the first living record of a closed segment; there must be a place."""
        living = [place for place, record in enumerate(self.rows[segment]) if record is not None]
        self.write(self.rows[segment][living[0]])
        self.release(segment, living[0])


def living_records(rows):
    """Return (key, value) of each living record by segment, then by place."""
    return [record for row in rows for record in row if record is not None]
