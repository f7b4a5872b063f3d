"""Papers: certificates that a standing lasts forever, or how soon it stalls."""

from carrylog.checks import check_least
from carrylog.life import blocked_at, blocks, check_standing, falls_short, life, next_word, safe
from carrylog.rounds import check_round
from carrylog.words import dominates, is_word, word_of


def steady_word(limit, budgets, phase):
    """Return the word to which the newest play leads in the early order, or None."""
    check_least(limit, 1, "limit")
    check_round(budgets)
    check_least(phase, 0, "phase")
    if limit == 1:
        return "1"
    if max(budgets.budgets) == 0:
        return None
    count = 1
    found = [1]
    for behind in range(1, limit):
        # More ones behind never need fewer budgets, so the count never falls.
        while _total_before(budgets, phase, count) < behind:
            count += 1
        found.append(behind + count)
    return word_of(list(reversed(found)))


def forever_paper(word, places, limit, budgets, phase=0, *, late=False):
    """Return a forever certificate for the standing, or None if it is not safe."""
    check_standing(word, places, limit, budgets, phase)
    if not safe(word, places, limit, budgets, phase, late=late):
        return None
    words = []
    met = {}
    at = _position(budgets, phase)
    while (word, at) not in met:
        met[(word, at)] = len(words)
        words.append(word)
        word = next_word(word, places, limit, budgets, at, late)
        at = _position(budgets, at + 1)
    return (words, met[(word, at)])


def forever_holds(paper, word, places, limit, budgets, phase=0, *, late=False):
    """Tell whether the forever certificate holds for the standing."""
    check_standing(word, places, limit, budgets, phase)
    words, back = paper
    if not 0 <= back < len(words) or (len(words) - back) % len(budgets) != 0:
        return False
    if not all([_is_entry(text, places, limit) for text in words]):
        return False
    if not dominates(word, words[0]):
        return False
    aims = words[1:] + [words[back]]
    for at, aim in enumerate(aims):
        after = next_word(words[at], places, limit, budgets, phase + at, late)
        if after is None or not dominates(after, aim):
            return False
    return True


def stall_paper(word, places, limit, budgets, phase=0, *, late=False):
    """Return a stall certificate for the standing, or None if it is safe."""
    check_standing(word, places, limit, budgets, phase)
    if late and len(word) == places:
        return ("full", 0)
    lasting = life(word, places, limit, budgets, phase, late=late)
    if lasting is None:
        return None
    critical = lasting - 1 if late else lasting
    if blocked_at(word, places, limit, budgets, phase, late=late) == critical:
        return ("blocked", critical)
    return ("short", critical)


def stall_holds(paper, word, places, limit, budgets, phase=0, *, late=False):
    """Tell whether the stall certificate holds for the standing."""
    check_standing(word, places, limit, budgets, phase)
    kind, t = paper
    if kind == "blocked":
        return blocks(word, places, limit, budgets, phase, late, t)
    if kind == "short":
        return falls_short(word, places, limit, budgets, phase, late, t)
    return kind == "full" and late and len(word) == places and t == 0


def _position(budgets, phase):
    return phase % len(budgets)


def _total_before(budgets, phase, count):
    """Return the sum of the budgets that end right before the phase."""
    return budgets.total(_position(budgets, phase - count), count)


def _is_entry(text, places, limit):
    return is_word(text) and len(text) <= places and text.count("1") <= limit
