"""Plain models of segments, keepers and the opponent, from the words of the document alone.

Each record that was written is a `Spot` in its segment until the segment is
freed. The models of the keepers and of the opponent work on this model, never
on the package.
"""

import copy

from tests.plain_ring import Refused, is_key


class Spot:
    def __init__(self, key, value):
        self.key, self.value, self.lives = key, value, True


class PlainSegments:
    def __init__(self, segments, size, limit, budget, late=False):
        self.segments, self.size, self.limit, self.budget, self.late = segments, size, limit, budget, late
        self.spots = {number: [] for number in range(segments)}
        self.head = 0
        self.became_head = {0: 0}
        self.clock = 0
        self.freed = {number: 0 for number in range(segments)}
        self.done = self.carried = self.last_wait = 0

    def alive(self, number):
        return [spot for spot in self.spots[number] if spot.lives]

    def everything(self):
        return [spot for number in range(self.segments) for spot in self.alive(number)]

    def spot_of(self, key):
        for number in range(self.segments):
            for spot in self.alive(number):
                if spot.key == key:
                    return number, spot
        return None, None

    def lives(self, key):
        return self.spot_of(key)[1] is not None

    def unwritten(self):
        return [number for number in range(self.segments) if not self.spots[number]]

    def closed(self):
        return [number for number in range(self.segments) if number != self.head and self.alive(number)]

    def closed_by_age(self):
        return sorted(self.closed(), key=lambda number: self.became_head[number])

    def has_place(self):
        return len(self.spots[self.head]) < self.size or len(self.unwritten()) > 0

    def write(self, key, value):
        if len(self.spots[self.head]) == self.size:
            self.head = self.unwritten()[0]
            self.clock += 1
            self.became_head[self.head] = self.clock
        self.spots[self.head].append(Spot(key, value))

    def kill(self, number, spot):
        spot.lives = False
        if not self.alive(number):
            self.spots[number] = []
            self.freed[number] += 1

    def carry(self, number):
        first = self.alive(number)[0]
        self.write(first.key, first.value)
        self.kill(number, first)

    def over_limit(self, key):
        return not self.lives(key) and len(self.everything()) >= self.limit

    def to_the_moment(self, key, value):
        """Go to the carrying moment of a put; False if a late write finds no place."""
        number, old = self.spot_of(key)
        if self.late:
            if not self.has_place():
                return False
            self.write(key, value)
        if old:
            self.kill(number, old)
        return True

    def deed(self, key, value, choices):
        if not self.to_the_moment(key, value):
            raise Refused("Stalled", self.done)
        for choice in choices:
            if choice not in self.closed() or not self.has_place():
                raise Refused("BadChoice", choice)
            self.carry(choice)
        if not self.late:
            if not self.has_place():
                raise Refused("Stalled", self.done)
            self.write(key, value)
        self.done += 1
        self.carried += len(choices)
        self.last_wait = len(choices)

    def put(self, key, value, *choices):
        if not is_key(key):
            raise Refused("InvalidInput", "key")
        if self.over_limit(key):
            raise Refused("KeyLimit", self.limit)
        if len(choices) > self.budget:
            raise Refused("BadChoice", len(choices))
        trial = copy.deepcopy(self)
        trial.deed(key, value, choices)
        self.__dict__ = trial.__dict__

    def delete(self, key):
        number, spot = self.spot_of(key)
        if not spot:
            raise Refused("UnknownKey", key)
        self.kill(number, spot)

    def view(self, keys):
        """All that can be seen, in the order of `view_of`."""
        numbers = range(self.segments)
        counts = tuple(sorted(len(self.alive(number)) for number in self.closed()))
        others = [number for number in self.unwritten() if number != self.head]
        return [
            (self.segments, self.size, self.limit, self.budget, self.late), self.head,
            self.size - len(self.spots[self.head]) + self.size * len(others),
            self.done, self.carried, self.last_wait, len(self.everything()), [self.lives(key) for key in keys],
            [(spot.key, spot.value) for spot in self.everything()],
            [len(self.spots[number]) for number in numbers], [len(self.alive(number)) for number in numbers],
            [self.freed[number] for number in numbers], self.closed(), self.closed_by_age(),
            [[spot.key if spot.lives else None for spot in self.spots[number]] for number in numbers],
            (len(self.spots[self.head]), len(self.alive(self.head)), counts),
        ]


def view_of(store, keys):
    """All that can be seen of a Segments, in the order of `PlainSegments.view`."""
    numbers = range(store.segments)
    return [
        (store.segments, store.size, store.limit, store.budget, store.late), store.head, store.room,
        store.done, store.carried, store.last_wait, len(store), [key in store for key in keys],
        [(key, store.read(key)) for key in store.table()],
        [store.written(number) for number in numbers], [store.living(number) for number in numbers],
        [store.freed(number) for number in numbers], store.closed(), store.closed_by_age(),
        store.picture(), store.summary(),
    ]


class PlainKeeper:
    """Fewest, Oldest or Scripted (with its numbers) by the words of [53] and [54]."""

    def __init__(self, kind, numbers=()):
        self.kind, self.numbers, self.used = kind, list(numbers), 0

    def choices(self, model, key):
        trial = copy.deepcopy(model)
        chosen = []
        if self.kind == "rest" or trial.over_limit(key) or not trial.to_the_moment(key, 0):
            return chosen
        while len(chosen) < trial.budget and trial.closed() and trial.has_place():
            picked = self.pick(trial)
            if picked is None:
                break
            trial.carry(picked)
            chosen.append(picked)
        return chosen

    def pick(self, trial):
        if self.kind == "fewest":
            if trial.unwritten():
                return None
            return min(trial.closed(), key=lambda number: (len(trial.alive(number)), number))
        if self.kind == "oldest":
            return trial.closed_by_age()[0]
        number = 0
        if self.used < len(self.numbers):
            number = self.numbers[self.used]
            self.used += 1
        return trial.closed()[(number - 1) % len(trial.closed())] if number else None


class PlainOpponent:
    """The opponent by the words of [56] and [57]."""

    def __init__(self, limit):
        self.limit, self.second = limit, False
        # One entry for each counted release: the segment and how often it had been freed.
        self.releases = []

    def d(self, model, number):
        return self.releases.count((number, model.freed[number]))

    def first_living(self, model):
        return model.everything()[0].key

    def next_key(self, model):
        moment = copy.deepcopy(model)
        if model.late:
            if not moment.has_place():
                return self.first_living(model)
            moment.write("new", 0)
        if len(model.everything()) < self.limit:
            number = 0
            while model.lives(f"k{number}"):
                number += 1
            return f"k{number}"
        key = self.target(model, moment)
        number, _ = model.spot_of(key)
        self.releases.append((number, model.freed[number]))
        return key

    def target(self, model, moment):
        if not self.second:
            for number in range(model.segments):
                limit = (model.budget + 1) * (self.d(model, number) + 1)
                if model.alive(number) and limit < len(moment.spots[number]):
                    return model.alive(number)[0].key
            self.second = True
        at_head = [spot.key for spot in moment.alive(moment.head) if spot.key != "new"]
        return at_head[-1] if at_head else self.first_living(model)

    def debt(self, model):
        return sum(len(model.spots[number]) - (model.budget + 1) * self.d(model, number)
                   for number in range(model.segments))
