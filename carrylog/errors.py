"""All errors of the package.

A message never shows a number that a caller passed: a refused count, choice
or reader may be of any size, and Python does not write out numbers with
thousands of digits.
"""


class StoreError(ValueError):
    """The base class of all errors of the package."""


class InvalidInput(StoreError):
    """An argument breaks its limit; `field` is the name of the parameter."""

    def __init__(self, field):
        super().__init__(f"the limit of {field} is broken")
        self.field = field


class KeyLimit(StoreError):
    """A new key was put while the greatest number of keys, `most`, lived."""

    def __init__(self, most):
        super().__init__("as many keys live as the limit allows")
        self.most = most


class ReaderLimit(StoreError):
    """A reader was asked for while the greatest number of them, `most`, read."""

    def __init__(self, most):
        super().__init__("as many readers are open as the store allows")
        self.most = most


class UnknownKey(StoreError):
    """No living record has this `key`."""

    def __init__(self, key):
        super().__init__(f"no living record has the key {key!r}")
        self.key = key


class UnknownReader(StoreError):
    """No open reader has the number `reader`."""

    def __init__(self, reader):
        super().__init__("no open reader has this number")
        self.reader = reader


class BadChoice(StoreError):
    """What was chosen to be carried, `choice`, cannot be carried."""

    def __init__(self, choice):
        super().__init__("this choice of what to carry is not possible")
        self.choice = choice


class Stalled(StoreError):
    """A deed found no free place after `deeds` completed ones."""

    def __init__(self, deeds):
        super().__init__("no place is free for the deed")
        self.deeds = deeds


class NoPlace(StoreError):
    """A record was appended to a word that fills all places, `length` of them."""

    def __init__(self, length):
        super().__init__("the word fills all places")
        self.length = length


class PowerCut(StoreError):
    """The power failed in a call that had landed `landed` records."""

    def __init__(self, landed):
        super().__init__("the power failed during a write")
        self.landed = landed


class PoweredOff(StoreError):
    """The disk was asked for something after its power had failed."""

    def __init__(self):
        super().__init__("the power is off; recover the disk from its image")


class BadImage(StoreError):
    """The cell with the index `cell` cannot stand in an image."""

    def __init__(self, cell):
        super().__init__("a cell of the image does not hold what it must hold")
        self.cell = cell


class BadRule(StoreError):
    """The line with the number `line`, counted from 1, is no rule."""

    def __init__(self, line):
        super().__init__("a line of the text is no rule")
        self.line = line


class NotSafe(StoreError):
    """The standing would not be safe; `certificate` tells how it stalls."""

    def __init__(self, certificate):
        super().__init__("the standing would not be safe")
        self.certificate = certificate


class NothingToUndo(StoreError):
    """There is no deed that could be taken back."""

    def __init__(self):
        super().__init__("there is nothing to undo")


class NothingToRedo(StoreError):
    """There is no undone deed that could be done again."""

    def __init__(self):
        super().__init__("there is nothing to redo")
