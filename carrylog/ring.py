"""The ring: one log in which only the oldest record can be freed."""

from carrylog.checks import check_key, check_least
from carrylog.errors import BadChoice, InvalidInput, KeyLimit, ReaderLimit, Stalled, UnknownKey, UnknownReader
from carrylog.rounds import check_round


class Entry:
    """A record of the log with what needs it; it is replaced, never changed.

    Copies of a log can share their entries because nothing changes an entry.
    """

    def __init__(self, key, value, alive, seen_by):
        self.key = key
        self.value = value
        self.alive = alive
        self.seen_by = seen_by
        self.needed = alive or len(seen_by) > 0

    def released(self):
        """Return the record as it is when its key has no use for it."""
        return Entry(self.key, self.value, False, self.seen_by)

    def seen(self, reader):
        """Return the record as it is when this reader sees it, too."""
        return Entry(self.key, self.value, self.alive, self.seen_by + (reader,))

    def unseen(self, reader):
        """Return the record as it is when this reader is closed."""
        others = [each for each in self.seen_by if each != reader]
        return Entry(self.key, self.value, self.alive, tuple(others))


class Ring:
    """A ring of places that keeps at most `limit` keys."""

    def __init__(self, places, limit, budgets, *, late=False, readers=0):
        check_least(places, 1, "places")
        check_least(limit, 1, "limit")
        check_round(budgets)
        check_least(readers, 0, "readers")
        if limit > places:
            raise InvalidInput("limit")
        if late and readers > 0:
            raise InvalidInput("readers")
        self._places = places
        self._limit = limit
        self._budgets = budgets
        self._late = late
        self._readers = readers
        self._entries = []
        self._done = 0
        self._phase = 0
        self._carried = 0
        self._last_wait = 0
        self._open_readers = []
        self._next_reader = 0

    @property
    def places(self):
        """The number of places."""
        return self._places

    @property
    def limit(self):
        """The greatest number of living keys."""
        return self._limit

    @property
    def budgets(self):
        """The Round of the budgets."""
        return self._budgets

    @property
    def late(self):
        """True if a put first appends the new record."""
        return self._late

    @property
    def readers(self):
        """The greatest number of open readers."""
        return self._readers

    @property
    def word(self):
        """The word of the log."""
        return "".join(["1" if entry.needed else "0" for entry in self._entries])

    @property
    def free(self):
        """The number of free places."""
        return self._places - len(self._entries)

    @property
    def done(self):
        """The number of completed puts and deletes."""
        return self._done

    @property
    def phase(self):
        """The position in the round of the budget of the next put or delete."""
        return self._phase

    @property
    def carried(self):
        """The number of records carried so far."""
        return self._carried

    @property
    def last_wait(self):
        """The number of records carried by the last put or delete."""
        return self._last_wait

    def __len__(self):
        return len([entry for entry in self._entries if entry.alive])

    def __contains__(self, x):
        return x in [entry.key for entry in self._entries if entry.alive]

    def read(self, key):
        """Return the value of the living record of the key."""
        for entry in self._entries:
            if entry.alive and entry.key == key:
                return entry.value
        raise UnknownKey(key)

    def table(self):
        """Return the value of each living key, in the order from tail to head."""
        return {entry.key: entry.value for entry in self._entries if entry.alive}

    def log(self):
        """Return (key, value) for each needed record and None for each dead one."""
        return [(entry.key, entry.value) if entry.needed else None for entry in self._entries]

    def scan(self):
        """Yield (key, value) of each living record in ascending order of the keys."""
        table = self.table()
        for key in sorted(list(table)):
            yield (key, table[key])

    def age(self, key):
        """Return the depth of the living record of the key."""
        for at, entry in enumerate(self._entries):
            if entry.alive and entry.key == key:
                return len(self._entries) - at
        raise UnknownKey(key)

    def put(self, key, value, count=None):
        """Put a record and carry `count` records, or as many as possible."""
        check_key(key)
        if key not in self and len(self) >= self._limit:
            raise KeyLimit(self._limit)
        self._complete(Entry(key, value, True, ()), count)

    def delete(self, key, count=None):
        """Delete a key by a tombstone and carry `count` records, or as many as possible."""
        if key not in self:
            raise UnknownKey(key)
        self._complete(Entry(key, 0, False, ()), count)

    def open_reader(self):
        """Open a reader of the table as it is now and return its number."""
        if len(self._open_readers) >= self._readers:
            raise ReaderLimit(self._readers)
        reader = self._next_reader
        self._entries = [entry.seen(reader) if entry.alive else entry for entry in self._entries]
        self._open_readers = self._open_readers + [reader]
        self._next_reader = reader + 1
        return reader

    def read_as(self, reader, key):
        """Return the value that the open reader sees for the key."""
        self._check_reader(reader)
        for entry in self._entries:
            if reader in entry.seen_by and entry.key == key:
                return entry.value
        raise UnknownKey(key)

    def close_reader(self, reader):
        """Close the reader; what only it needed is dead."""
        self._check_reader(reader)
        self._open_readers = [each for each in self._open_readers if each != reader]
        self._entries = _freed([entry.unseen(reader) for entry in self._entries])

    def open_readers(self):
        """Return the open readers in ascending order."""
        return list(self._open_readers)

    def twin(self):
        """Return an independent copy."""
        return self._copied(self._places, self._limit, self._budgets, self._phase)

    def changed(self, *, places=None, limit=None, budgets=None):
        """Return an independent copy with other terms; what is None stays."""
        if places is not None:
            check_least(places, 1, "places")
        if limit is not None:
            check_least(limit, 1, "limit")
        if budgets is not None:
            check_round(budgets)
        new_places = self._places if places is None else places
        new_limit = self._limit if limit is None else limit
        if len(self._entries) > new_places:
            raise InvalidInput("places")
        if len(self) > new_limit or new_limit > new_places:
            raise InvalidInput("limit")
        if budgets is None:
            return self._copied(new_places, new_limit, self._budgets, self._phase)
        return self._copied(new_places, new_limit, budgets, 0)

    def _complete(self, own, count):
        """Do the deed of the own record, a new record or a tombstone, or change nothing."""
        if self._late:
            self._check_room(self._entries)
            entries = _freed(_released(self._entries, own.key) + [own])
            others = _needed(entries) - 1 if own.alive else _needed(entries)
            entries, wait = self._carry(entries, others, count)
        else:
            entries = _freed(_released(self._entries, own.key))
            entries, wait = self._carry(entries, _needed(entries), count)
            self._check_room(entries)
            entries = _freed(entries + [own])
        self._entries = entries
        self._done += 1
        self._phase = (self._phase + 1) % len(self._budgets)
        self._carried += wait
        self._last_wait = wait

    def _carry(self, entries, others, count):
        """Return the entries after the carries, and how many there were."""
        most = min(self._budgets.at(self._phase), others)
        if count is not None and not 0 <= count <= most:
            raise BadChoice(count)
        wanted = most if count is None else count
        wait = 0
        while wait < wanted and len(entries) < self._places:
            entries = _freed(entries[1:] + [entries[0]])
            wait += 1
        if count is not None and wait < count:
            raise BadChoice(count)
        return (entries, wait)

    def _check_room(self, entries):
        if len(entries) >= self._places:
            raise Stalled(self._done)

    def _check_reader(self, reader):
        if reader not in self._open_readers:
            raise UnknownReader(reader)

    def _copied(self, places, limit, budgets, phase):
        other = Ring(places, limit, budgets, late=self._late, readers=self._readers)
        other._entries = list(self._entries)
        other._done = self._done
        other._phase = phase
        other._carried = self._carried
        other._last_wait = self._last_wait
        other._open_readers = list(self._open_readers)
        other._next_reader = self._next_reader
        return other


def _freed(entries):
    """Return the entries without the dead ones at the tail."""
    for at, entry in enumerate(entries):
        if entry.needed:
            return entries[at:]
    return []


def _released(entries, key):
    """Return the entries with the record of the key no longer living."""
    return [entry.released() if entry.alive and entry.key == key else entry for entry in entries]


def _needed(entries):
    return len([entry for entry in entries if entry.needed])
