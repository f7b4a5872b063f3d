"""Asks for refusals: which field a call names, and every mix of broken limits."""

from itertools import combinations

from carrylog.errors import InvalidInput


def refused_field(call, *args, **named):
    """The field that the call refuses, or None if it is not refused."""
    try:
        call(*args, **named)
    except InvalidInput as refusal:
        return refusal.field
    return None


def check_every_mix(case, call, good, broken, named=None):
    """Break every set of the limits: the first parameter in order must be named.

    good: the positional parameters with good values, in their order.
    named: the same for the keyword-only ones.
    broken: for a parameter, the values that break its limit by themselves.
    """
    named = named or {}
    order = [name for name in [*good, *named] if name in broken]
    case.assertIsNone(refused_field(call, *good.values(), **named))
    for many in range(1, len(order) + 1):
        for names in combinations(order, many):
            for turn in range(max(len(broken[name]) for name in names)):
                wrong = {name: broken[name][turn % len(broken[name])] for name in names}
                args = [wrong.get(name, good[name]) for name in good]
                keywords = {name: wrong.get(name, named[name]) for name in named}
                with case.subTest(call=call.__name__, wrong=wrong):
                    case.assertEqual(refused_field(call, *args, **keywords), names[0])
