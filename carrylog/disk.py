"""The disk: a ring in the late order whose records survive a loss of power.

A disk keeps its cells and nothing else that changes but the power. All that it
tells is worked out from the cells, so a recovered disk cannot differ.
"""

from carrylog.checks import check_key, check_least
from carrylog.errors import BadChoice, BadImage, InvalidInput, KeyLimit, PowerCut, PoweredOff, Stalled, UnknownKey
from carrylog.life import check_terms

# Where the parts of a cell stand.
NUMBER = 0
DONE = 1
KIND = 2
KEY = 3
VALUE = 4
OUTCOMES = ("none", "torn", "landed")


class Disk:
    """A late ring of places, one cell each, that keeps at most `limit` keys."""

    def __init__(self, places, limit, budgets):
        check_terms(places, limit, budgets)
        self._places = places
        self._limit = limit
        self._budgets = budgets
        self._cells = [None for _ in range(places)]
        self._off = False

    @classmethod
    def recover(cls, image, limit, budgets):
        """Return a disk with these cells."""
        if len(image) == 0:
            raise InvalidInput("image")
        disk = cls(len(image), limit, budgets)
        _check_image(image)
        disk._cells = list(image)
        return disk

    @property
    def places(self):
        """The number of places."""
        self._check_power()
        return self._places

    @property
    def limit(self):
        """The greatest number of living keys."""
        self._check_power()
        return self._limit

    @property
    def budgets(self):
        """The Round of the budgets."""
        self._check_power()
        return self._budgets

    @property
    def word(self):
        """The word of the log."""
        self._check_power()
        marks = {cell[NUMBER]: True for cell in _living(self._cells)}
        return "".join(["1" if cell[NUMBER] in marks else "0" for cell in _log(self._cells)])

    @property
    def free(self):
        """The number of free places."""
        self._check_power()
        return self._places - len(_log(self._cells))

    @property
    def done(self):
        """The number of puts and deletes whose own record has landed."""
        self._check_power()
        return _deeds(self._cells)

    @property
    def phase(self):
        """The position in the round of the budget of the next put or delete."""
        self._check_power()
        return _deeds(self._cells) % len(self._budgets)

    @property
    def torn(self):
        """The number of torn cells in the log."""
        self._check_power()
        return len([cell for cell in _log(self._cells) if cell[KIND] == "torn"])

    @property
    def number(self):
        """The number of the next write."""
        self._check_power()
        return _next_number(self._cells)

    @property
    def off(self):
        """True after a loss of power."""
        return self._off

    @property
    def pending(self):
        """The number of records that may still be carried for the last deed."""
        self._check_power()
        return _pending(self._cells, self._budgets)

    def __len__(self):
        self._check_power()
        return len(_living(self._cells))

    def __contains__(self, x):
        self._check_power()
        return x in [cell[KEY] for cell in _living(self._cells)]

    def read(self, key):
        """Return the value of the living record of the key."""
        self._check_power()
        for cell in _living(self._cells):
            if cell[KEY] == key:
                return cell[VALUE]
        raise UnknownKey(key)

    def table(self):
        """Return the value of each living key, in the order from tail to head."""
        self._check_power()
        return {cell[KEY]: cell[VALUE] for cell in _living(self._cells)}

    def image(self):
        """Return the cells, which can be read without power, too."""
        return list(self._cells)

    def put(self, key, value, count=None, *, cut=None, outcome="none"):
        """Put a record and carry; the power may fail at the write with the index `cut`."""
        self._check_power()
        check_key(key)
        _check_cut(cut, outcome)
        if key not in self and len(self) >= self._limit:
            raise KeyLimit(self._limit)
        self._write(self._planned(self._own("put", key, value), count), cut, outcome)

    def delete(self, key, count=None, *, cut=None, outcome="none"):
        """Delete a key by a tombstone and carry; the power may fail as in `put`."""
        self._check_power()
        _check_cut(cut, outcome)
        if key not in self:
            raise UnknownKey(key)
        self._write(self._planned(self._own("delete", key, 0), count), cut, outcome)

    def resume(self, count=None, *, cut=None, outcome="none"):
        """Carry what the last deed may still carry and return how many records that were."""
        self._check_power()
        _check_cut(cut, outcome)
        records = self._planned([], count)
        self._write(records, cut, outcome)
        return len(records)

    def _check_power(self):
        if self._off:
            raise PoweredOff()

    def _own(self, kind, key, value):
        """Return the list of the own record of a deed."""
        if len(_log(self._cells)) == self._places:
            raise Stalled(_deeds(self._cells))
        return [(_next_number(self._cells), _deeds(self._cells) + 1, kind, key, value)]

    def _planned(self, own, count):
        """Return the own records and the copies that follow; nothing is written yet."""
        records = list(own)
        cells = _overwritten(self._cells, records)
        # Each copy frees at least the place that it takes, so only the first may lack one.
        is_full = len(_log(cells)) == self._places
        most = 0 if is_full else _pending(cells, self._budgets)
        if count is not None and not 0 <= count <= most:
            raise BadChoice(count)
        wanted = most if count is None else count
        for _ in range(wanted):
            oldest = _living(cells)[0]
            moved = (_next_number(cells), _deeds(cells), "copy", oldest[KEY], oldest[VALUE])
            records.append(moved)
            cells = _overwritten(cells, [moved])
        return records

    def _write(self, records, cut, outcome):
        """Write the records up to the cut, if there is such a write."""
        if cut is None or cut >= len(records):
            self._cells = _overwritten(self._cells, records)
            return
        landed = records[:cut + 1] if outcome == "landed" else records[:cut]
        cells = _overwritten(self._cells, landed)
        if outcome == "torn":
            cells = _overwritten(cells, [(records[cut][NUMBER], _deeds(cells), "torn")])
        self._cells = cells
        self._off = True
        raise PowerCut(len(landed))


def _check_cut(cut, outcome):
    if cut is not None:
        check_least(cut, 0, "cut")
    if outcome not in OUTCOMES:
        raise InvalidInput("outcome")


def _check_image(image):
    """Refuse cells that do not hold the last writes."""
    places = len(image)
    for at, cell in enumerate(image):
        if cell is not None and cell[NUMBER] % places != at:
            raise BadImage(at)
    after = _next_number(image)
    held = {number % places: number for number in range(max(0, after - places), after)}
    for at, cell in enumerate(image):
        if at in held and (cell is None or cell[NUMBER] != held[at]):
            raise BadImage(at)


def _overwritten(cells, records):
    """Return the cells after these writes."""
    after = list(cells)
    for record in records:
        after[record[NUMBER] % len(after)] = record
    return after


def _in_order(cells):
    """Return the cells that were written by ascending numbers."""
    return sorted([cell for cell in cells if cell is not None], key=lambda cell: cell[NUMBER])


def _living(cells):
    """Return the living records from the tail to the head."""
    last = {cell[KEY]: cell for cell in _in_order(cells) if cell[KIND] != "torn"}
    return _in_order([cell for cell in last.values() if cell[KIND] != "delete"])


def _log(cells):
    """Return the cells of the log from the tail to the head."""
    alive = _living(cells)
    if len(alive) == 0:
        return []
    return [cell for cell in _in_order(cells) if cell[NUMBER] >= alive[0][NUMBER]]


def _deeds(cells):
    """Return how many own records have landed."""
    return max([cell[DONE] for cell in cells if cell is not None], default=0)


def _next_number(cells):
    return max([cell[NUMBER] + 1 for cell in cells if cell is not None], default=0)


def _pending(cells, budgets):
    """Return how many records may still be carried for the last deed."""
    done = _deeds(cells)
    if done == 0:
        return 0
    kinds = [cell[KIND] for cell in cells if cell is not None and cell[DONE] == done]
    # The record of the last put lives until the next deed, so its cell is there.
    others = len(_living(cells)) - kinds.count("put")
    return max(0, min(budgets.at(done - 1), others) - kinds.count("copy"))
