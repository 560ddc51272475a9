"""News: what a log tells of words, whatever the games are by which it is right."""

from untoldgames.errors import NoLog, NoName, NoRow, NoWord
from untoldgames.kinds import MOST_WORDS, is_row, is_word
from untoldgames.logs import checked_log, first_wrong, heard_rows, was_let
from untoldgames.played import is_turn


def told_by(hall, log):
    """What was let and refused by a log, and the rows behind it; raises NoLog also if it cannot be right.

    It is a triple: for each name a dict that has as keys the rows that are in each of its games, a dict of pairs (name,
    row with a word more that is in none), and the list of the rows.
    """
    tried, rows = checked_log(hall, log)
    heard = heard_rows(hall, rows)
    if first_wrong(hall, heard, log, tried) is not None:
        raise NoLog()
    let = {name: {row: True for row in heard[name]} for name in heard}
    refused = {}
    for item, longer in zip(log, tried):
        if not was_let(item):
            refused[(hall.boards[item[1]][0], longer)] = True
    return (let, refused, rows)


def can_be_let(refused, name, row):
    """Tells whether a row can be in a game of a name: it is not too long, and goes by nothing that was refused."""
    return len(row) <= MOST_WORDS and not any([(name, row[:end + 1]) in refused for end in range(len(row))])


def news(hall, log, name, row, word):
    """What a log tells of a word at a row of a game: "let", "refused" or "open"."""
    let, refused, _ = told_by(hall, log)
    if name not in hall.names:
        raise NoName()
    if not is_row(row):
        raise NoRow()
    if not is_word(word):
        raise NoWord()
    longer = row + (word,)
    if longer in let[name]:
        return "let"
    return "open" if can_be_let(refused, name, longer) else "refused"


def certain(hall, log):
    """The ascending list of the pairs of a board on which the guest is to move, and a word that is let there surely."""
    let, _, rows = told_by(hall, log)
    found = []
    for at, board in enumerate(hall.boards):
        row = rows[at]
        if is_turn(board, row):
            found.extend([(at, longer[-1]) for longer in let[board[0]]
                          if len(longer) == len(row) + 1 and longer[:-1] == row])
    return found
