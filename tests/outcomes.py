"""What a call comes to: its value, or the name of the error and what it tells."""

from carrylog.errors import (
    BadChoice, BadImage, BadRule, InvalidInput, KeyLimit, NoPlace, NotSafe, NothingToRedo, NothingToUndo, PowerCut,
    PoweredOff, ReaderLimit, Stalled, StoreError, UnknownKey, UnknownReader,
)

TOLD = {
    InvalidInput: "field", KeyLimit: "most", ReaderLimit: "most", UnknownKey: "key", UnknownReader: "reader",
    BadChoice: "choice", Stalled: "deeds", NoPlace: "length", PowerCut: "landed", BadImage: "cell", BadRule: "line",
    NotSafe: "certificate",
}
SILENT = (PoweredOff, NothingToUndo, NothingToRedo)


def outcome(call, *args, **named):
    """("done", value), or (name of the error, its attribute), None for an error without one."""
    try:
        return ("done", call(*args, **named))
    except SILENT as error:
        return (error.__class__.__name__, None)
    except StoreError as error:
        return (error.__class__.__name__, getattr(error, TOLD[error.__class__]))
