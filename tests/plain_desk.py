"""A plain model of the desk, written from the words of the document alone.

Whether a standing is safe is found out by a search of the whole game.
"""

import copy
from functools import lru_cache

from tests.games import ring_lives
from tests.plain_ring import PlainRing, Refused


@lru_cache(maxsize=None)
def searched(places, limit, row):
    return ring_lives(places, limit, list(row), False)


def is_safe(ring):
    found = searched(ring.places, ring.limit, tuple(ring.row))
    return found[ring.word(), ring.at] is None


def is_integer(value):
    return type(value) is int


def has_form(deed):
    """[93]: True for a tuple that is one of the five deeds."""
    if type(deed) is not tuple or not deed:
        return False
    word, *rest = deed
    kinds = [type(each) for each in rest]
    if word == "put":
        return kinds == [str, int]
    if word == "delete":
        return kinds == [str]
    if word == "change":
        if len(rest) != 3 or any(kind not in (int, type(None)) for kind in kinds[:2]):
            return False
        return rest[2] is None or (kinds[2] is list and all(is_integer(each) for each in rest[2]))
    return word in ("undo", "redo") and rest == []


class PlainDesk:
    def __init__(self, places, limit, row):
        self.ring = PlainRing(places, limit, row)
        if not is_safe(self.ring):
            raise Refused("NotSafe", None)
        self.past, self.undone = [], []

    def keep(self, deed, ring):
        self.past.append((deed, self.ring))
        self.undone = []
        self.ring = ring

    def deed(self, name, *args):
        count = 0
        while True:
            ring = copy.deepcopy(self.ring)
            getattr(ring, name)(*args, count)
            if is_safe(ring):
                self.keep((name, *args, count), ring)
                return count
            count += 1

    def put(self, key, value):
        return self.deed("put", key, value)

    def delete(self, key):
        return self.deed("delete", key)

    def changed(self, places, limit, row):
        if row is not None and (not 1 <= len(row) <= 12 or min(row) < 0):
            raise Refused("InvalidInput", "budgets")
        ring = self.ring.changed(places, limit, row)
        if not is_safe(ring):
            raise Refused("NotSafe", (ring.word(), ring.places, ring.limit, tuple(ring.row), ring.at))
        return ring

    def change(self, places=None, limit=None, row=None):
        self.keep(("change", places, limit, row), self.changed(places, limit, row))

    def undo(self):
        if not self.past:
            raise Refused("NothingToUndo", None)
        deed, before = self.past.pop()
        self.undone.append((deed, self.ring))
        self.ring = before

    def redo(self):
        if not self.undone:
            raise Refused("NothingToRedo", None)
        deed, after = self.undone.pop()
        self.past.append((deed, self.ring))
        self.ring = after

    def attempt(self, *deeds):
        trial = copy.deepcopy(self)
        outcomes = []
        for deed in deeds:
            if not has_form(deed):
                raise Refused("InvalidInput", "deeds")
            try:
                outcomes.append(getattr(trial, deed[0])(*deed[1:]))
            except Refused as refusal:
                return outcomes + [refusal.args[0]]
        return outcomes

    def spare(self):
        fits = []
        for taken in range(self.ring.places):
            try:
                self.changed(self.ring.places - taken, None, None)
                fits.append(taken)
            except Refused:
                pass
        return max(fits)

    def picture(self, keys):
        """All that can be seen, in the order of `picture_of`."""
        ring = self.ring
        seen = ring.picture(keys)
        return [
            (ring.places, ring.limit, ring.row), *seen[1:6], self.spare(), len(self.past), len(ring.living),
            seen[8], seen[9], seen[9], [deed for deed, _ in self.past],
        ]


def picture_of(desk, keys):
    """All that can be seen of a Desk, in the order of `PlainDesk.picture`."""
    return [
        (desk.places, desk.limit, desk.budgets.budgets), desk.word, desk.free, desk.done, desk.phase, desk.carried,
        desk.spare, desk.steps, len(desk), [key in desk for key in keys], list(desk.table().items()),
        [(key, desk.read(key)) for key in desk.table()], desk.history(),
    ]
