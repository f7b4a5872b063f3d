"""What a call comes to: its value, or the name of the error and what it tells."""

from carrylog.errors import (
    BadChoice, InvalidInput, KeyLimit, NoPlace, ReaderLimit, Stalled, StoreError, UnknownKey, UnknownReader,
)

TOLD = {
    InvalidInput: "field", KeyLimit: "most", ReaderLimit: "most", UnknownKey: "key", UnknownReader: "reader",
    BadChoice: "choice", Stalled: "deeds", NoPlace: "length",
}


def outcome(call, *args, **named):
    """("done", value), or (name of the error, its attribute)."""
    try:
        return ("done", call(*args, **named))
    except StoreError as error:
        return (error.__class__.__name__, getattr(error, TOLD[error.__class__]))
