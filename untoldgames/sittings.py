"""Sittings: a hall that is led on, move by move, by games that the sitting alone knows."""

from untoldgames.errors import NoBoard, NothingDone, NotLet, NotTurn, NoWord
from untoldgames.halls import check_games
from untoldgames.kinds import is_within, is_word
from untoldgames.played import begun_rows, is_turn, known_rows, turns_at, won_at


class Sitting:
    """What is played at the boards of a hall, what was refused, and what can be taken back."""

    def __init__(self, hall, games):
        check_games(hall, games)
        self._hall = hall
        self._games = {name: games[name] for name in hall.names}
        self._known = known_rows(games)
        self._rows = begun_rows(hall)
        self._log = []
        # The refused triples as often as they were refused, so that each one can be taken back.
        self._refused = []

    def rows(self):
        """The tuple of the rows of all boards."""
        return tuple(self._rows)

    def turns(self):
        """The tuple of flags that are True where the guest is to move."""
        return turns_at(self._hall, self._rows)

    def say(self, board, word):
        """The guest tries a word; the flag tells whether it is let."""
        self._check(board, word, True)
        is_let = self._is_let(board, word)
        if is_let:
            self._rows[board] = self._rows[board] + (word,)
        else:
            self._refused.append((self._hall.boards[board][0], self._rows[board], word))
        self._log.append(("said", board, word, is_let))
        return is_let

    def answer(self, board, word):
        """A master plays a word."""
        self._check(board, word, False)
        if not self._is_let(board, word):
            raise NotLet()
        self._rows[board] = self._rows[board] + (word,)
        self._log.append(("answered", board, word))

    def refused(self):
        """The ascending list of the triples (name, row, word) that were refused."""
        return sorted(set(self._refused))

    def won(self):
        """The lot of the boards that are won if the hall closes now."""
        return won_at(self._hall, self._rows)

    def log(self):
        """The list of all that was done and is not taken back."""
        return list(self._log)

    def back(self):
        """Takes back the last say or answer that is not taken back."""
        if len(self._log) == 0:
            raise NothingDone()
        done = self._log.pop()
        if done[-1] is False:
            self._refused.pop()
        else:
            self._rows[done[1]] = self._rows[done[1]][:-1]

    def depth(self):
        """How many says and answers can be taken back."""
        return len(self._log)

    def copy(self):
        """Another sitting that stands where this one does, and goes on apart."""
        other = Sitting(self._hall, self._games)
        other._rows = list(self._rows)
        other._log = list(self._log)
        other._refused = list(self._refused)
        return other

    def trying(self, action):
        """What an action returns that is called with the sitting, behind which all is put back to what it was."""
        rows, log, refused = list(self._rows), list(self._log), list(self._refused)
        try:
            return action(self)
        finally:
            self._rows, self._log, self._refused = rows, log, refused

    def _is_let(self, board, word):
        """Tells whether a word is let on a board now."""
        return self._rows[board] + (word,) in self._known[self._hall.boards[board][0]]

    def _check(self, board, word, is_guest):
        """Raises what is wrong with a word on a board if the guest, or else a master, is to move there."""
        if not is_within(board, 0, len(self._rows) - 1):
            raise NoBoard()
        if not is_word(word):
            raise NoWord()
        if is_turn(self._hall.boards[board], self._rows[board]) != is_guest:
            raise NotTurn()
