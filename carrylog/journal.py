"""Journals: what an observer of an early ring can tell of its carries.

A log is a tuple with the key of each living record from the tail to the head,
and None for each dead record behind the first one. A key that no later line
puts is forgotten: NAMELESS stands for it, so that logs that can only go on
alike are one.
"""

from carrylog.ring import Ring

NAMELESS = ""


class Observer:
    """Knows the terms of an early ring that was empty at phase 0."""

    def __init__(self, places, limit, budgets):
        # The ring checks the terms; it stays empty.
        self._ring = Ring(places, limit, budgets)

    def readings(self, journal):
        """Yield all rows of counts that the journal allows, in ascending order."""
        tables, _ = self._tables(journal, [])
        rows = [([], ())]
        for table in tables:
            rows = [(counts + [count], after) for counts, log in rows for count, after in table[log]]
        for counts, _ in rows:
            yield counts

    def count_readings(self, journal):
        """Return the number of readings."""
        tables, logs = self._tables(journal, [])
        ways = {log: 1 for log in logs}
        for table in reversed(tables):
            ways = {log: sum([ways[after] for _, after in table[log]]) for log in table}
        return ways[()]

    def fits(self, journal):
        """Tell whether the journal has a reading."""
        return self.first_fault(journal) is None

    def first_fault(self, journal):
        """Return the index of the first line up to which there is no reading, or None."""
        logs = [()]
        for at in range(len(journal)):
            logs = _ends(self._table(logs, journal, at, []))
            if len(logs) == 0:
                return at
        return None

    def sure_waits(self, journal):
        """Return for each line the count that all readings have there, or None."""
        tables, _ = self._tables(journal, [])
        waits = []
        for table in tables:
            counts = sorted({count for choices in list(table.values()) for count, _ in choices})
            waits.append(counts[0] if len(counts) == 1 else None)
        return waits

    def sure_words(self, journal):
        """Return the words that the ring can have after the journal."""
        _, logs = self._tables(journal, [])
        # The last line states the free places, so all these words are of one length.
        return sorted({_word(log) for log in logs})

    def outlook(self, journal, key):
        """Return the numbers of free places that a put of the key may leave."""
        _, logs = self._tables(journal, [key])
        return sorted({self._free(after) for log in logs for _, after in self._puts(log, len(journal), key)})

    def mends(self, journal):
        """Return all (index, free) that give the journal a reading if put in its place."""
        fault = self.first_fault(journal)
        if fault is None:
            return []
        found = []
        for at in range(fault + 1):
            key, stated = journal[at]
            for free in range(self._ring.places + 1):
                mended = journal[:at] + [(key, free)] + journal[at + 1:]
                if free != stated and self.fits(mended):
                    found.append((at, free))
        return found

    def record(self, rows):
        """Play (key, count) after (key, count) on a ring and return its journal."""
        ring = self._ring.twin()
        journal = []
        for key, count in rows:
            ring.put(key, 0, count)
            journal.append((key, ring.free))
        return journal

    def _tables(self, journal, wanted):
        """Return for each line the choices from each log, and the logs after the last line.

        Only choices that some reading makes are kept. The wanted keys are not forgotten.
        """
        tables = []
        logs = [()]
        for at in range(len(journal)):
            tables.append(self._table(logs, journal, at, wanted))
            logs = _ends(tables[at])
        alive = {log: True for log in logs}
        kept = []
        for table in reversed(tables):
            left = {log: [(count, after) for count, after in table[log] if after in alive] for log in table}
            kept.append(left)
            alive = {log: True for log in left if len(left[log]) > 0}
        return (list(reversed(kept)), logs)

    def _table(self, logs, journal, at, wanted):
        """Return for each log (count, log after it) for each count that the line allows."""
        key, free = journal[at]
        later = [line[0] for line in journal[at + 1:]] + wanted
        table = {}
        for log in logs:
            choices = [(count, after) for count, after in self._puts(log, at, key) if self._free(after) == free]
            table[log] = [(count, _forgotten(after, later)) for count, after in choices]
        return table

    def _puts(self, log, at, key):
        """Return (count, log after it) for each count with which put number `at` completes."""
        if key not in log and _ones(log) >= self._ring.limit:
            return []
        moment = _freed(tuple([None if each == key else each for each in log]))
        if self._free(moment) == 0:
            return []
        choices = []
        # With a free place at first, a copy always finds one, and so does the record.
        for count in range(min(self._ring.budgets.at(at), _ones(moment)) + 1):
            choices.append((count, moment + (key,)))
            moment = _freed(moment[1:] + moment[:1])
        return choices

    def _free(self, log):
        return self._ring.places - len(log)


def _ends(table):
    """Return the logs to which the choices lead, each once."""
    return list({after: True for log in table for _, after in table[log]})


def _forgotten(log, later):
    """Return the log with the names of the later keys alone."""
    return tuple([key if key is None or key in later else NAMELESS for key in log])


def _freed(log):
    """Return the log without the dead records at the tail."""
    while len(log) > 0 and log[0] is None:
        log = log[1:]
    return log


def _ones(log):
    return len(log) - log.count(None)


def _word(log):
    return "".join(["0" if key is None else "1" for key in log])
