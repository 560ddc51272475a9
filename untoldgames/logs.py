"""Logs: lists of what was said and answered, and what games can be heard by them."""

from untoldgames.errors import NoLog, TooMany
from untoldgames.games import MOST_ROWS, beginnings
from untoldgames.halls import check_games
from untoldgames.kinds import MOST_WORDS, is_within, is_word
from untoldgames.played import begun_rows, is_turn, known_rows


def has_item_form(thing, many):
    """Tells whether a thing has the form of an item of a log, with one of many boards."""
    if not isinstance(thing, tuple) or len(thing) not in (3, 4):
        return False
    if len(thing) == 3 and thing[0] != "answered":
        return False
    if len(thing) == 4 and not (thing[0] == "said" and isinstance(thing[3], bool)):
        return False
    return is_within(thing[1], 0, many - 1) and is_word(thing[2])


def was_let(item):
    """Tells whether by an item of a log its word was let, so that it stands at the end of the row."""
    return item[0] == "answered" or item[3]


def can_follow(hall, rows, thing):
    """Tells whether a thing is an item that a log can have behind what led to these rows."""
    if not has_item_form(thing, len(hall.boards)):
        return False
    row = rows[thing[1]]
    if is_turn(hall.boards[thing[1]], row) != (thing[0] == "said"):
        return False
    return len(row) < MOST_WORDS or not was_let(thing)


def tried_rows(hall, thing):
    """What the items of a log tried, and the rows behind it; None for what is no log.

    It is a pair: the list of the rows with the words that were said or answered, and the list of the rows.
    """
    if not isinstance(thing, (list, tuple)):
        return None
    rows = begun_rows(hall)
    tried = []
    for item in thing:
        if not can_follow(hall, rows, item):
            return None
        longer = rows[item[1]] + (item[2],)
        tried.append(longer)
        if was_let(item):
            rows[item[1]] = longer
    return (tried, rows)


def checked_log(hall, log):
    """What tried_rows tells of a log; raises NoLog for what is none."""
    told = tried_rows(hall, log)
    if told is None:
        raise NoLog()
    return told


def log_rows(hall, log):
    """The tuple of the rows of all boards behind a log."""
    _, rows = checked_log(hall, log)
    return tuple(rows)


def first_wrong(hall, games, log, tried):
    """The number of the first item of a log that is not so by some games, or None."""
    known = known_rows(games)
    for at, item in enumerate(log):
        if (tried[at] in known[hall.boards[item[1]][0]]) != was_let(item):
            return at
    return None


def log_fault(hall, games, thing):
    """What is wrong with a log of a hall by some games, or None."""
    check_games(hall, games)
    told = tried_rows(hall, thing)
    if told is None:
        return ("form",)
    tried, _ = told
    at = first_wrong(hall, games, thing, tried)
    return None if at is None else ("let", at)


def heard_rows(hall, rows):
    """What was let by a log behind which these rows stand: for each name the ascending tuple of rows, however many."""
    heard = {}
    for name in hall.names:
        # Rows only grow, so the last ones begin with all that was let ahead of them.
        heard[name] = beginnings([row for board, row in zip(hall.boards, rows) if board[0] == name])
    return heard


def heard_games(hall, log):
    """The games with the fewest rows by which all is let that a log lets, or None if by them more is."""
    tried, rows = checked_log(hall, log)
    games = heard_rows(hall, rows)
    if any([len(game) > MOST_ROWS for game in games.values()]):
        raise TooMany(MOST_ROWS)
    return games if first_wrong(hall, games, log, tried) is None else None
