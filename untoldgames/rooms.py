"""Rooms: halls that change, as boards are put and shut, seats exchanged and words played."""

from untoldgames.aims import is_any_aim, numbers_in, renumbered
from untoldgames.errors import Full, NoAim, NoBoard, NoName, NoSide, NothingDone, NoWord, TooMany
from untoldgames.halls import MOST_BEGUN, MOST_BOARDS, Hall
from untoldgames.kinds import is_integer, is_name, is_side, is_word
from untoldgames.pairs import greatest_pairings, pairs_of
from untoldgames.verdicts import sure_among


class Room:
    """Boards that stand under numbers of their own, and what can be taken back of what was done to them."""

    def __init__(self):
        # A dict from numbers to boards. It is replaced by each deed and never changed behind it, so it can be kept.
        self._boards = {}
        # How many numbers were given, so that those of boards that were shut are not given again.
        self._given = 0
        # For each deed that can be taken back the boards ahead of it, and how many numbers were given then.
        self._past = []

    def put(self, name, side):
        """Puts a board more, and returns its number."""
        if not is_name(name):
            raise NoName()
        if not is_side(side):
            raise NoSide()
        if len(self._boards) == MOST_BOARDS:
            raise TooMany(MOST_BOARDS)
        number = self._given
        self._begin()
        self._boards[number] = (name, side, ())
        self._given = number + 1
        return number

    def shut(self, board):
        """Shuts a board."""
        self._check(board)
        self._begin()
        del self._boards[board]

    def exchange(self, board):
        """Lets the guest sit at the other side of a board."""
        self._check(board)
        self._begin()
        name, side, row = self._boards[board]
        self._boards[board] = (name, 1 - side, row)

    def play(self, board, word):
        """Whoever is to move on a board plays a word."""
        self._check(board)
        if not is_word(word):
            raise NoWord()
        name, side, row = self._boards[board]
        if len(row) == MOST_BEGUN:
            raise Full()
        self._begin()
        self._boards[board] = (name, side, row + (word,))

    def numbers(self):
        """The ascending tuple of the numbers of the boards."""
        return tuple(sorted(self._boards))

    def hall(self):
        """The hall of the boards as they stand now, or None if there are none."""
        boards = self._in_order()
        return Hall(boards) if boards else None

    def pairs(self):
        """The ascending list of the pairs, by the numbers of the boards."""
        return self._by_numbers(pairs_of(self._in_order()))

    def sure(self, aim):
        """A pairing, by the numbers of the boards, by each of whose outcomes an aim is reached, or None."""
        if not is_any_aim(aim) or not all([number in self._boards for number in numbers_in(aim)]):
            raise NoAim()
        boards = self._in_order()
        places = {number: at for at, number in enumerate(self.numbers())}
        pairing = sure_among(greatest_pairings(pairs_of(boards)), renumbered(aim, places), len(boards))
        return None if pairing is None else tuple(self._by_numbers(pairing))

    def back(self):
        """Takes back the last put, shut, exchange or play that is not taken back."""
        if len(self._past) == 0:
            raise NothingDone()
        self._boards, self._given = self._past.pop()

    def depth(self):
        """How many deeds can be taken back."""
        return len(self._past)

    def copy(self):
        """Another room that stands as this one does, and goes on apart."""
        other = Room()
        other._boards = self._boards
        other._given = self._given
        other._past = list(self._past)
        return other

    def trying(self, action):
        """What an action returns that is called with the room, behind which all is put back to what it was."""
        boards, given, past = self._boards, self._given, list(self._past)
        try:
            return action(self)
        finally:
            self._boards, self._given, self._past = boards, given, past

    def _begin(self):
        """Keeps what stands now, so that the deed that follows, which changes a copy, can be taken back."""
        self._past.append((self._boards, self._given))
        self._boards = dict(self._boards)

    def _check(self, board):
        """Raises NoBoard for what is not the number of a board that is there."""
        if not is_integer(board) or board not in self._boards:
            raise NoBoard()

    def _in_order(self):
        """The tuple of the boards, in the order of their numbers."""
        return tuple([self._boards[number] for number in self.numbers()])

    def _by_numbers(self, couples):
        """Some pairs of boards, told by their places in order, told by their numbers."""
        numbers = self.numbers()
        return [(numbers[one], numbers[other]) for one, other in couples]
