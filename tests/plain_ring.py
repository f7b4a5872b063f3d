"""A plain model of the ring, written from the words of the document alone.

A record is one object for as long as its key or a reader needs it, wherever
its copy lies. The log is a list of such objects; a dead one stays in it until
the tail has passed it.
"""

import copy


class Refused(Exception):
    """The model refuses a call: the name of the error, and what it tells."""


class Record:
    def __init__(self, key, value):
        self.key = key
        self.value = value


def is_key(key):
    letters = "abcdefghijklmnopqrstuvwxyz0123456789"
    return 1 <= len(key) <= 12 and all(character in letters for character in key)


class PlainRing:
    def __init__(self, places, limit, row, late=False, readers=0):
        self.places, self.limit, self.row, self.late, self.readers = places, limit, row, late, readers
        self.log = []
        self.living = {}
        self.views = {}
        self.opened = 0
        self.done = self.at = self.carried = self.last_wait = 0

    def needs(self, record):
        kept = list(self.living.values()) + [seen for view in self.views.values() for seen in view.values()]
        return any(record is each for each in kept)

    def tidy(self):
        while self.log and not self.needs(self.log[0]):
            self.log.pop(0)

    def needed(self):
        return [record for record in self.log if self.needs(record)]

    def word(self):
        return "".join("1" if self.needs(record) else "0" for record in self.log)

    def has_place(self):
        return len(self.log) < self.places

    def append(self, record):
        self.log.append(record)
        self.tidy()

    def release(self, key):
        self.living.pop(key, None)
        self.tidy()

    def carry_one(self):
        record = self.log.pop(0)
        self.log.append(record)
        self.tidy()

    def carry(self, others, count):
        budget = self.row[self.at]
        if count is not None and (count < 0 or count > budget or count > others):
            raise Refused("BadChoice", count)
        self.last_wait = 0
        while self.last_wait < (min(budget, others) if count is None else count):
            if not self.has_place():
                if count is None:
                    return
                raise Refused("BadChoice", count)
            self.carry_one()
            self.last_wait += 1

    def deed(self, key, record, is_put, count):
        if self.late:
            if not self.has_place():
                raise Refused("Stalled", self.done)
            # The new record must not be taken for a dead one before it lives.
            self.log.append(record)
            self.living.pop(key, None)
            if is_put:
                self.living[key] = record
            self.tidy()
            self.carry(len([each for each in self.needed() if not (is_put and each is record)]), count)
        else:
            self.release(key)
            self.carry(len(self.needed()), count)
            if not self.has_place():
                raise Refused("Stalled", self.done)
            self.log.append(record)
            if is_put:
                self.living[key] = record
            self.tidy()
        self.done += 1
        self.at = (self.at + 1) % len(self.row)
        self.carried += self.last_wait

    def put(self, key, value, count=None):
        if not is_key(key):
            raise Refused("InvalidInput", "key")
        if key not in self.living and len(self.living) >= self.limit:
            raise Refused("KeyLimit", self.limit)
        self.on_a_copy(key, Record(key, value), True, count)

    def delete(self, key, count=None):
        if key not in self.living:
            raise Refused("UnknownKey", key)
        self.on_a_copy(key, Record(key, 0), False, count)

    def on_a_copy(self, *deed):
        trial = copy.deepcopy(self)
        trial.deed(*deed)
        self.__dict__ = trial.__dict__

    def open_reader(self):
        if len(self.views) >= self.readers:
            raise Refused("ReaderLimit", self.readers)
        self.views[self.opened] = dict(self.living)
        self.opened += 1
        return self.opened - 1

    def read_as(self, reader, key):
        if reader not in self.views:
            raise Refused("UnknownReader", reader)
        if key not in self.views[reader]:
            raise Refused("UnknownKey", key)
        return self.views[reader][key].value

    def close_reader(self, reader):
        if reader not in self.views:
            raise Refused("UnknownReader", reader)
        del self.views[reader]
        self.tidy()

    def changed(self, places, limit, row):
        other = copy.deepcopy(self)
        other.places = self.places if places is None else places
        other.limit = self.limit if limit is None else limit
        if row is not None:
            other.row, other.at = row, 0
        for name, number in [("places", places), ("limit", limit)]:
            if number is not None and number < 1:
                raise Refused("InvalidInput", name)
        if len(self.log) > other.places:
            raise Refused("InvalidInput", "places")
        if len(self.living) > other.limit or other.limit > other.places:
            raise Refused("InvalidInput", "limit")
        return other

    def picture(self, keys):
        """All that can be seen, in the order of `picture_of`."""
        alive = {id(record): True for record in self.living.values()}
        table = [(record.key, record.value) for record in self.log if id(record) in alive]
        ages = {record.key: len(self.log) - at for at, record in enumerate(self.log) if id(record) in alive}
        return [
            (self.places, self.limit, self.row, self.late, self.readers),
            self.word(), self.places - len(self.log), self.done, self.at, self.carried, self.last_wait,
            len(self.living), [key in self.living for key in keys], table, sorted(table), ages,
            [(record.key, record.value) if self.needs(record) else None for record in self.log],
            sorted(self.views),
            [[view[key].value if key in view else None for key in keys] for _, view in sorted(self.views.items())],
        ]


def picture_of(ring, keys):
    """All that can be seen of a Ring, in the order of `PlainRing.picture`."""
    table = ring.table()
    return [
        (ring.places, ring.limit, ring.budgets.budgets, ring.late, ring.readers),
        ring.word, ring.free, ring.done, ring.phase, ring.carried, ring.last_wait,
        len(ring), [key in ring for key in keys], list(table.items()), list(ring.scan()),
        {key: ring.age(key) for key in table},
        ring.log(), ring.open_readers(),
        [[seen_or_none(ring, reader, key) for key in keys] for reader in ring.open_readers()],
    ]


def seen_or_none(ring, reader, key):
    try:
        return ring.read_as(reader, key)
    except ValueError:
        return None
