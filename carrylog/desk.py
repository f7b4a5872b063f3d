"""The desk: a ring that is led deed by deed and is always safe."""

from carrylog.checks import is_whole
from carrylog.errors import InvalidInput, KeyLimit, NothingToRedo, NothingToUndo, NotSafe, UnknownKey
from carrylog.keepers import fewest_carries
from carrylog.life import safe
from carrylog.papers import stall_paper
from carrylog.ring import Ring
from carrylog.rounds import Round
from carrylog.words import release


class Desk:
    """An early ring without readers on which no deed is refused for want of a place."""

    def __init__(self, places, limit, budgets):
        # No ring is changed once it is kept, so the past and twins can share it.
        self._ring = _proven(Ring(places, limit, budgets))
        # Each deed that is not undone, with the ring before it.
        self._past = []
        # Each undone deed, with the ring after it, the one to be redone first at the end.
        self._undone = []

    @staticmethod
    def rebuilt(places, limit, budgets, history):
        """Return a desk on which the deeds of a history are done again."""
        desk = Desk(places, limit, budgets)
        for deed in history:
            if desk._do(deed) != _listed_count(deed):
                raise InvalidInput("history")
        return desk

    @property
    def places(self):
        """The number of places."""
        return self._ring.places

    @property
    def limit(self):
        """The greatest number of living keys."""
        return self._ring.limit

    @property
    def budgets(self):
        """The Round of the budgets."""
        return self._ring.budgets

    @property
    def word(self):
        """The word of the log."""
        return self._ring.word

    @property
    def free(self):
        """The number of free places."""
        return self._ring.free

    @property
    def phase(self):
        """The position in the round of the budget of the next put or delete."""
        return self._ring.phase

    @property
    def done(self):
        """The number of completed puts and deletes."""
        return self._ring.done

    @property
    def carried(self):
        """The number of records carried so far."""
        return self._ring.carried

    @property
    def spare(self):
        """The greatest number of places that can be taken away now."""
        ring = self._ring
        word = ring.word
        spare = 0
        # Fewer places are never safer, so the first number that is refused ends the search.
        for places in range(ring.places - 1, max(len(word), ring.limit) - 1, -1):
            if not safe(word, places, ring.limit, ring.budgets, ring.phase):
                return spare
            spare += 1
        return spare

    @property
    def steps(self):
        """The number of deeds that are not undone."""
        return len(self._past)

    def __len__(self):
        return len(self._ring)

    def __contains__(self, x):
        return x in self._ring

    def read(self, key):
        """Return the value of the living record of the key."""
        return self._ring.read(key)

    def table(self):
        """Return the value of each living key, in the order from tail to head."""
        return self._ring.table()

    def put(self, key, value):
        """Put a record, carry as few records as are needed and return how many."""
        count = self._needed_carries(key, "1")
        ring = self._ring.twin()
        ring.put(key, value, count)
        self._keep(("put", key, value, count), ring)
        return count

    def delete(self, key):
        """Delete a key, carry as few records as are needed and return how many."""
        count = self._needed_carries(key, "0")
        ring = self._ring.twin()
        ring.delete(key, count)
        self._keep(("delete", key, count), ring)
        return count

    def change(self, *, places=None, limit=None, budgets=None):
        """Give the ring other terms; what is None stays."""
        ring = _proven(self._ring.changed(places=places, limit=limit, budgets=budgets))
        self._keep(("change", places, limit, budgets), ring)

    def undo(self):
        """Take back the last deed that is not undone."""
        if len(self._past) == 0:
            raise NothingToUndo()
        deed, before = self._past.pop()
        self._undone.append((deed, self._ring))
        self._ring = before

    def redo(self):
        """Do the last undone deed again."""
        if len(self._undone) == 0:
            raise NothingToRedo()
        deed, after = self._undone.pop()
        self._past.append((deed, self._ring))
        self._ring = after

    def history(self):
        """Return the deeds that are not undone."""
        return [_told(deed) for deed, _ in self._past]

    def attempt(self, *deeds):
        """Return what the deeds would come to, up to the first one that is refused."""
        trial = self.twin()
        outcomes = []
        for deed in deeds:
            if not _has_form(deed):
                raise InvalidInput("deeds")
            came = _tried(trial, deed)
            outcomes.append(came)
            # Only a refusal comes to a string.
            if isinstance(came, str):
                return outcomes
        return outcomes

    def twin(self):
        """Return an independent copy."""
        # Where a standing is safe the empty one is, too, so the terms are not refused.
        other = Desk(self._ring.places, self._ring.limit, self._ring.budgets)
        other._ring = self._ring
        other._past = list(self._past)
        other._undone = list(self._undone)
        return other

    def _needed_carries(self, key, record):
        """Return the smallest number of carries after which the append of the record is safe."""
        ring = self._ring
        word = ring.word
        keys = list(ring.table())
        if key in keys:
            word = release(word, keys.index(key))
        return fewest_carries(word, ring.places, ring.limit, ring.budgets, ring.phase, record)

    def _keep(self, deed, ring):
        self._past.append((deed, self._ring))
        self._undone = []
        self._ring = ring

    def _do(self, deed):
        """Do a deed that is told as a tuple and return what its method returns."""
        if deed[0] == "put":
            return self.put(deed[1], deed[2])
        if deed[0] == "delete":
            return self.delete(deed[1])
        if deed[0] == "undo":
            return self.undo()
        if deed[0] == "redo":
            return self.redo()
        numbers = deed[3]
        budgets = None if numbers is None else Round(*numbers)
        return self.change(places=deed[1], limit=deed[2], budgets=budgets)


def _proven(ring):
    """Return the ring if its standing is safe, or refuse it."""
    paper = stall_paper(ring.word, ring.places, ring.limit, ring.budgets, ring.phase)
    if paper is not None:
        raise NotSafe(paper)
    return ring


def _told(deed):
    """Return the deed as the history tells it."""
    if deed[0] != "change":
        return deed
    kind, places, limit, budgets = deed
    return (kind, places, limit, None if budgets is None else budgets.budgets)


def _listed_count(deed):
    """Return the count of a deed of a history, or None for a change."""
    return None if deed[0] == "change" else deed[-1]


def _tried(desk, deed):
    """Return what the deed comes to: what it returns, or the name of the error."""
    try:
        return desk._do(deed)
    except InvalidInput:
        return "InvalidInput"
    except KeyLimit:
        return "KeyLimit"
    except UnknownKey:
        return "UnknownKey"
    except NotSafe:
        return "NotSafe"
    except NothingToUndo:
        return "NothingToUndo"
    except NothingToRedo:
        return "NothingToRedo"


def _has_form(deed):
    """Tell whether the deed is a tuple that can be tried."""
    if not isinstance(deed, tuple) or len(deed) == 0:
        return False
    if deed[0] == "put":
        return len(deed) == 3 and isinstance(deed[1], str) and is_whole(deed[2])
    if deed[0] == "delete":
        return len(deed) == 2 and isinstance(deed[1], str)
    if deed[0] == "change":
        return len(deed) == 4 and _is_term(deed[1]) and _is_term(deed[2]) and _are_budgets(deed[3])
    return len(deed) == 1 and deed[0] in ("undo", "redo")


def _is_term(term):
    return term is None or is_whole(term)


def _are_budgets(term):
    """Tell whether the term is a list of integers or None."""
    return term is None or (isinstance(term, list) and all([is_whole(budget) for budget in term]))
