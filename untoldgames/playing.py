"""Playing: guests and masters that are led against one another, and the copying of words."""

from untoldgames.errors import NoAnswer, NoMove, TooMany
from untoldgames.kinds import is_within, is_word
from untoldgames.pairs import check_pairing, partners_of
from untoldgames.played import check_rows, is_turn
from untoldgames.sittings import Sitting

MOST_REFUSED = 1000


def is_move(hall, rows, refused, thing):
    """Tells whether a guest can say what it gives: a word on a board where it is to move, not refused there yet."""
    if not isinstance(thing, tuple) or len(thing) != 2:
        return False
    board, word = thing
    if not is_within(board, 0, len(rows) - 1) or not is_word(word):
        return False
    if not is_turn(hall.boards[board], rows[board]):
        return False
    return (hall.boards[board][0], rows[board], word) not in refused


def guest_said(hall, play, guest):
    """Asks a guest once, and says in a play (a Sitting or a Foe) what it gives; False if it waits."""
    rows, refused = play.rows(), tuple(play.refused())
    given = guest(rows, refused)
    if given is None:
        return False
    if not is_move(hall, rows, refused, given):
        raise NoMove()
    board, word = given
    play.say(board, word)
    if len(play.refused()) > MOST_REFUSED:
        raise TooMany(MOST_REFUSED)
    return True


def masters_answered(hall, games, sitting, masters):
    """Asks the masters once for each board at which one is to move, and plays their words; False if none answers."""
    answered = False
    for board in sitting.won():
        row = sitting.rows()[board]
        word = masters(board, row)
        if word is None:
            continue
        if row + (word,) not in games[hall.boards[board][0]]:
            raise NoAnswer()
        sitting.answer(board, word)
        answered = True
    return answered


def led(hall, games, guest, masters):
    """Leads a guest and masters until nobody moves any more: the lot of the boards that are won, and the log."""
    sitting = Sitting(hall, games)
    is_open = True
    while is_open:
        while guest_said(hall, sitting, guest):
            pass
        is_open = masters_answered(hall, games, sitting, masters)
    return (sitting.won(), sitting.log())


def copied(hall, pairing, rows):
    """The move by which copying between the boards of a pairing goes on, or None."""
    check_pairing(hall, pairing)
    check_rows(hall, rows)
    partners = partners_of(pairing)
    for board in sorted(partners):
        row, longer = rows[board], rows[partners[board]]
        if is_turn(hall.boards[board], row) and len(longer) == len(row) + 1 and longer[:-1] == row:
            return (board, longer[-1])
    return None
