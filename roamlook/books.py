"""Books and answerers of games: whether they hold, and how a book is followed."""

from roamlook.boards import is_between, is_filled_lot


def is_state(game, turn, lot):
    """Tell whether there are such a turn of a hand and such a lot on which the game is played."""
    return is_between(turn, 0, game.turns() - 1) and is_filled_lot(game.ground, lot)


def leads_of(game, turn, lot, choice):
    """Tell for each answer the turn and the lot that come next, None where the wish is broken."""
    lots = game.narrowed(turn, lot, choice)
    return {
        answer: None if game.breaks(narrow) else game.behind(turn, narrow)
        for answer, narrow in lots.items()
    }


def book_holds(game, lot, rows, *, turn=0):
    """Tell whether the rows (turn, lot, choice) are a book for this beginning."""
    game.check_lot(lot)
    game.check_turn(turn)
    chosen = {(own_turn, own_lot): choice for own_turn, own_lot, choice in rows}
    if len(chosen) != len(rows) or (turn, lot) not in chosen:
        return False
    return all([row_keeps(game, state, chosen) for state in chosen])


def row_keeps(game, state, chosen):
    """Tell whether the choice in this row leads, whatever is answered, unbroken to another row."""
    turn, lot = state
    if not is_state(game, turn, lot) or chosen[state] not in game.choices_of(turn):
        return False
    # A broken wish leads to None, which has no row.
    return all([later in chosen for later in list(leads_of(game, turn, lot, chosen[state]).values())])


def answerer_holds(game, lot, beats, rows, *, turn=0):
    """Tell whether the rows (turn, lot, beats, answers) are an answerer for this beginning and so many beats."""
    game.check_asked(lot, beats, 1, turn)
    given = {(own_turn, own_lot, left): told for own_turn, own_lot, left, told in rows}
    if len(given) != len(rows) or (turn, lot, beats) not in given:
        return False
    if not all([is_state(game, own_turn, own_lot) and left >= 1 for own_turn, own_lot, left in given]):
        return False
    # Many rows are alike but for their beats.
    leads = {(own_turn, own_lot): all_leads(game, own_turn, own_lot) for own_turn, own_lot in states_of(given)}
    return all([row_breaks(row, leads[(row[0], row[1])], given) for row in given])


def states_of(given):
    """Tell the turns and lots of the rows, each once."""
    return sorted({(turn, lot) for turn, lot, left in given})


def all_leads(game, turn, lot):
    """Tell for each choice of the hand, none first, where each answer leads."""
    return [leads_of(game, turn, lot, choice) for choice in game.choices_of(turn)]


def row_breaks(row, leads, given):
    """Tell whether each answer in this row breaks the wish, or leads to a row with one beat fewer."""
    turn, lot, beats = row
    if len(given[row]) != len(leads):
        return False
    for comes, answer in zip(leads, given[row]):
        if answer not in comes:
            return False
        # No row has 0 beats, so behind a row of 1 beat nothing comes.
        if comes[answer] is not None and comes[answer] + (beats - 1,) not in given:
            return False
    return True


def follow(game, lot, rows, answers, *, turn=0):
    """Tell what comes when the book is followed and so answered: (choice, narrowed lot, lot behind the step)."""
    game.check_lot(lot)
    game.check_turn(turn)
    chosen = {}
    for own_turn, own_lot, choice in rows:
        chosen.setdefault((own_turn, own_lot), choice)
    told = []
    for answer in answers:
        choice = chosen.get((turn, lot))
        # Where there is no row this is None, which is no choice either.
        if choice not in game.choices_of(turn):
            break
        lots = game.narrowed(turn, lot, choice)
        if answer not in lots:
            break
        turn, lot = game.behind(turn, lots[answer])
        told.append((choice, lots[answer], lot))
    return told
