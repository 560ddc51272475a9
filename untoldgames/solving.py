"""Games that are told: who wins them, by which words, and how soon."""

from untoldgames.errors import NoSide
from untoldgames.games import check_game, check_place, mover
from untoldgames.kinds import is_row, is_side, is_word


def next_rows(game):
    """A dict from each row of a game to the list of its rows with one word more, ascending."""
    found = {row: [] for row in game}
    for row in game[1:]:
        found[row[:-1]].append(row)
    return found


def solved(game):
    """A dict from each row of a game to a pair: whether the mover wins, and how many words are left."""
    after = next_rows(game)
    verdicts = {}
    # A row stands ahead of all that begin with it, so the last ones are solved first.
    for row in game[::-1]:
        told = [verdicts[longer] for longer in after[row]]
        winning = [left for other_wins, left in told if not other_wins]
        if winning:
            verdicts[row] = (True, 1 + min(winning))
        else:
            verdicts[row] = (False, max([1 + left for _, left in told], default=0))
    return verdicts


def winner(game, row):
    """The side that wins from a row of a game on if both play best."""
    check_place(game, row)
    side = mover(row)
    return side if solved(game)[row][0] else 1 - side


def good_words(game, row):
    """The ascending tuple of the let words behind which the side that played them wins."""
    check_place(game, row)
    verdicts = solved(game)
    return tuple([longer[-1] for longer in next_rows(game)[row] if not verdicts[longer][0]])


def moves_left(game, row):
    """How many words are still played if the winning side hurries, and the other one delays."""
    check_place(game, row)
    return solved(game)[row][1]


def check_side(game, side):
    """Raises NoGame for what is no game, NoSide for what is no side."""
    check_game(game)
    if not is_side(side):
        raise NoSide()


def plan(game, side):
    """A plan by which a side wins a game, of just the rows that come by it, or None if the other side wins."""
    check_side(game, side)
    verdicts = solved(game)
    if verdicts[()][0] != (side == 0):
        return None
    after = next_rows(game)
    words = {}
    waiting = [()]
    while waiting:
        row = waiting.pop()
        if mover(row) == side:
            best = [longer for longer in after[row] if not verdicts[longer][0]][0]
            words[row] = best[-1]
            waiting.append(best)
        else:
            waiting.extend(after[row])
    return words


def is_plan(game, side, thing):
    """Tells whether a thing is a dict from rows of a game at which a side is to move to words that are let there."""
    if not isinstance(thing, dict):
        return False
    rows = {row: True for row in game}
    for row, word in thing.items():
        if not is_row(row) or mover(row) != side or not is_word(word):
            return False
        # Rows of a game are all there with each longer one, so this looks up both.
        if row + (word,) not in rows:
            return False
    return True


def plan_fault(game, side, thing):
    """What is wrong with a plan for a side of a game, or None."""
    check_side(game, side)
    if not is_plan(game, side, thing):
        return ("form",)
    after = next_rows(game)
    lacking = []
    waiting = [()]
    while waiting:
        row = waiting.pop()
        if mover(row) != side:
            waiting.extend(after[row])
        elif row in thing:
            waiting.append(row + (thing[row],))
        else:
            lacking.append(row)
    return ("lacks", min(lacking)) if lacking else None
