"""Lots and tables: which states of a game last forever, and how the others fall."""


def closed_lot(game):
    """Return the states from which the keeper can go on forever."""
    lives = game.lives()
    return [state for state in lives if lives[state] is None]


def lot_holds(game, lot):
    """Tell whether the keeper can stay in the lot, whatever is put."""
    marks = {state: True for state in lot}
    for state in lot:
        for _, replies in game.successors(state):
            if not any([reply in marks for reply in replies]):
                return False
    return True


def stall_table(game):
    """Return (state, life, move) for each state with a finite life."""
    lives = game.lives()
    return [(state, lives[state], _fatal_move(game, state, lives)) for state in lives if lives[state] is not None]


def table_holds(game, table):
    """Tell whether each entry leads to entries with smaller lives alone."""
    least = {}
    for state, life, _ in table:
        least[state] = min(life, least.get(state, life))
    return all([_entry_holds(game, entry, least) for entry in table])


def _fatal_move(game, state, lives):
    """Return the first move after which no reply lives as long as the state."""
    fatal = []
    for move, replies in game.successors(state):
        lasting = [reply for reply in replies if lives[reply] is None or lives[reply] >= lives[state]]
        if len(lasting) == 0:
            fatal.append(move)
    return fatal[0]


def _entry_holds(game, entry, least):
    state, life, move = entry
    if life < 0 or move not in game.moves(state):
        return False
    # A reply has an entry with a smaller life exactly if its smallest one is smaller.
    return all([reply in least and least[reply] < life for reply in game.replies(state, move)])
