"""Knowing: guests and masters who know all games, and play best."""

from untoldgames.errors import NoBoard, NoRow, NoRows
from untoldgames.games import let_words
from untoldgames.halls import check_games
from untoldgames.kinds import is_row, is_within
from untoldgames.played import are_rows, begun_rows, is_turn
from untoldgames.solving import good_words, solved


def best_at(hall, games, rows):
    """The lot of the boards on which the side at which the guest sits wins from these rows on."""
    verdicts = {name: solved(games[name]) for name in hall.names}
    found = []
    for at, board in enumerate(hall.boards):
        mover_wins, _ = verdicts[board[0]][rows[at]]
        if mover_wins == is_turn(board, rows[at]):
            found.append(at)
    return tuple(found)


def told_won(hall, games):
    """The lot of the boards on which the side at which the guest sits wins from the first."""
    check_games(hall, games)
    return best_at(hall, games, begun_rows(hall))


def told_move(hall, games, rows):
    """The move by which a guest who knows the games wins the boards of told_won, or None."""
    check_games(hall, games)
    if not are_rows(hall, rows) or not all([row in games[board[0]] for board, row in zip(hall.boards, rows)]):
        raise NoRows()
    now = best_at(hall, games, rows)
    for at in best_at(hall, games, begun_rows(hall)):
        board = hall.boards[at]
        if at in now and is_turn(board, rows[at]):
            return (at, good_words(games[board[0]], rows[at])[0])
    return None


def told_answer(hall, games, board, row):
    """The word that a master who knows the games plays at a row, or None if nothing is let."""
    check_games(hall, games)
    if not is_within(board, 0, len(hall.boards) - 1):
        raise NoBoard()
    name = hall.boards[board][0]
    if not is_row(row) or row not in games[name] or is_turn(hall.boards[board], row):
        raise NoRow()
    words = good_words(games[name], row) or let_words(games[name], row)
    return words[0] if words else None
