"""A plain model of the disk, written from the words of the document alone.

It goes on by what happens: it keeps a log of spots and the table, and never
looks into its cells. So what a disk tells from its cells can be held against it.
"""

import copy

from tests.plain_ring import Refused, is_key

WORDS = ("none", "torn", "landed")


class Cut(Exception):
    """The power has failed; what happened before stays."""


class Spot:
    def __init__(self, key, value):
        self.key, self.value = key, value


class PlainDisk:
    def __init__(self, places, limit, row):
        self.places, self.limit, self.row = places, limit, row
        self.cells = [None] * places
        self.log = []
        self.living = {}
        self.number = self.done = self.copies = self.landed = 0
        self.last_is_put = self.off = False
        self.cut, self.outcome, self.turn = None, "none", 0

    def lives(self, spot):
        return any(spot is each for each in self.living.values())

    def tidy(self):
        while self.log and not self.lives(self.log[0]):
            self.log.pop(0)

    def has_place(self):
        return len(self.log) < self.places

    def pending(self):
        if self.done == 0:
            return 0
        budget = self.row[(self.done - 1) % len(self.row)]
        return max(0, min(budget, len(self.living) - self.last_is_put) - self.copies)

    def write(self, kind, key, value):
        """One write, at which the power may fail."""
        fails = self.turn == self.cut
        self.turn += 1
        if fails and self.outcome == "none":
            raise Cut()
        place, number = self.number % self.places, self.number
        self.number += 1
        spot = Spot(key, value)
        if fails and self.outcome == "torn":
            self.cells[place] = (number, self.done, "torn")
            self.log.append(Spot(None, None))
            self.tidy()
            raise Cut()
        self.landed += 1
        if kind == "copy":
            self.copies += 1
        else:
            self.done, self.copies, self.last_is_put = self.done + 1, 0, kind == "put"
        self.cells[place] = (number, self.done, kind, key, value)
        self.log.append(spot)
        self.living.pop(key, None)
        if kind != "delete":
            # The living keys stand in the order of the log.
            self.living[key] = spot
        self.tidy()
        if fails:
            raise Cut()

    def carry(self, count):
        if count is not None and (count < 0 or count > self.pending() or (count > 0 and not self.has_place())):
            raise Refused("BadChoice", count)
        carried = 0
        wanted = self.pending() if count is None else count
        while carried < wanted and self.has_place():
            self.write("copy", self.log[0].key, self.log[0].value)
            carried += 1
        return carried

    def deed(self, kind, key, value, count):
        if not self.has_place():
            raise Refused("Stalled", self.done)
        self.write(kind, key, value)
        self.carry(count)

    def check_cut(self, cut, outcome):
        if cut is not None and cut < 0:
            raise Refused("InvalidInput", "cut")
        if outcome not in WORDS:
            raise Refused("InvalidInput", "outcome")

    def check_power(self):
        if self.off:
            raise Refused("PoweredOff", None)

    def put(self, key, value, count=None, cut=None, outcome="none"):
        self.check_power()
        if not is_key(key):
            raise Refused("InvalidInput", "key")
        self.check_cut(cut, outcome)
        if key not in self.living and len(self.living) >= self.limit:
            raise Refused("KeyLimit", self.limit)
        self.run(cut, outcome, lambda model: model.deed("put", key, value, count))

    def delete(self, key, count=None, cut=None, outcome="none"):
        self.check_power()
        self.check_cut(cut, outcome)
        if key not in self.living:
            raise Refused("UnknownKey", key)
        self.run(cut, outcome, lambda model: model.deed("delete", key, 0, count))

    def resume(self, count=None, cut=None, outcome="none"):
        self.check_power()
        self.check_cut(cut, outcome)
        return self.run(cut, outcome, lambda model: model.carry(count))

    def run(self, cut, outcome, deed):
        # A deed is refused before anything is written: it is tried without a cut first.
        trial = copy.deepcopy(self)
        trial.cut, trial.turn = None, 0
        deed(trial)
        self.cut, self.outcome, self.turn, self.landed = cut, outcome, 0, 0
        try:
            return deed(self)
        except Cut:
            self.off = True
            raise Refused("PowerCut", self.landed)

    def recovered(self, limit, row):
        other = copy.deepcopy(self)
        other.limit, other.row, other.off = limit, row, False
        return other

    def picture(self, keys):
        """All that can be seen, in the order of `picture_of`."""
        torn = len([spot for spot in self.log if spot.key is None])
        word = "".join("1" if self.lives(spot) else "0" for spot in self.log)
        table = [(spot.key, spot.value) for spot in self.log if self.lives(spot)]
        return [
            (self.places, self.limit, self.row), word, self.places - len(self.log), self.done,
            self.done % len(self.row), torn, self.number, self.off, self.pending(), len(self.living),
            [key in self.living for key in keys], table, table, self.cells,
        ]


def picture_of(disk, keys):
    """All that can be seen of a Disk, in the order of `PlainDisk.picture`."""
    return [
        (disk.places, disk.limit, disk.budgets.budgets), disk.word, disk.free, disk.done, disk.phase, disk.torn,
        disk.number, disk.off, disk.pending, len(disk), [key in disk for key in keys], list(disk.table().items()),
        [(key, disk.read(key)) for key in disk.table()], disk.image(),
    ]
