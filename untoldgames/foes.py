"""Foes: all masters at once, of games that are not told yet, against a guest who cannot be sure of its aim."""

from untoldgames.aims import is_reached
from untoldgames.errors import NoBoard, NothingDone, NotSpoiled, NotTurn, NoWord, Over
from untoldgames.halls import least_games
from untoldgames.kinds import is_within, is_word
from untoldgames.pairs import are_pair
from untoldgames.played import begun_rows, is_turn, known_rows, turns_at, won_at
from untoldgames.playing import guest_said
from untoldgames.verdicts import spoilers

LETTERS = "abcdefghijklmnopqrstuvwxyz"


def word_at(number):
    """The word with a number: a to z, then aa to zz, and so on."""
    word = ""
    while number >= 0:
        word = LETTERS[number % len(LETTERS)] + word
        number = number // len(LETTERS) - 1
    return word


def lone_pairs(hall, rows):
    """The pairing of the pairs, as the rows of a hall are now, neither board of which is in another pair."""
    places = [(name, side, row) for (name, side, _), row in zip(hall.boards, rows)]
    partners = [[] for _ in places]
    for one, place in enumerate(places):
        for other, another in enumerate(places):
            if are_pair(place, another):
                partners[one].append(other)
    found = []
    for one, others in enumerate(partners):
        if len(others) == 1 and one < others[0] and partners[others[0]] == [one]:
            found.append((one, others[0]))
    return tuple(found)


def has_all(pairing, couples):
    """Tells whether all of some pairs are in a pairing."""
    return all([couple in pairing for couple in couples])


class Foe:
    """Plays all masters against a guest such that the hall closes with its aim missed.

    What a guest says is let only where it is known that it must be, and what the foe answers is new everywhere. So
    two boards that are no pair by their rows never become one again, and who copies from one of several boards gives
    up the others. Nothing is answered if the aim is missed as it stands. Otherwise boards that would be won and are
    in several pairs, or in none, are answered first. Where only lone pairs are left to win, an outcome is pursued that
    spoils a greatest pairing of all of them: what would be won beyond it is answered. The pairing is kept as long as
    it can be, as each change of it may cost an answer on each pair.

    That ends in time. Let t pairs be lone at first, h later on, and r boards never be in one. Each answering but the
    first follows a move of the guest other than copying in a lone pair, of which there are at most 3h + 2t + r; or it
    is on lone pairs, which are answered at most (h + 1)(t + h / 2) times, as there are at most h + 1 pursuits. With at
    most 24 boards that makes no more than 4 waitings for each and 20 more, the last one counted, and no row comes to
    60 words.
    """

    def __init__(self, hall, aim):
        spoiled = spoilers(hall, aim)
        if spoiled is None:
            raise NotSpoiled()
        self._hall = hall
        self._aim = aim
        self._spoiled = spoiled
        # The greatest pairing of which the outcome is pursued, or None at first.
        self._pursued = None
        self._known = known_rows(least_games(hall))
        self._rows = begun_rows(hall)
        self._log = []
        # How often each triple was refused, so that each time can be taken back.
        self._refused = {}
        self._is_closed = False
        # For each say and wait how long the log was ahead of it, and what was pursued then.
        self._steps = []

    def rows(self):
        """The tuple of the rows of all boards."""
        return tuple(self._rows)

    def turns(self):
        """The tuple of flags that are True where the guest is to move."""
        return turns_at(self._hall, self._rows)

    def refused(self):
        """The ascending list of the triples (name, row, word) that were refused."""
        return sorted(self._refused)

    def log(self):
        """The list of all that was said and answered and is not taken back."""
        return list(self._log)

    def won(self):
        """The lot of the boards that are won if the hall closes now."""
        return won_at(self._hall, self._rows)

    def say(self, board, word):
        """The guest tries a word; the flag tells whether it is let."""
        self._check(board, word)
        self._keep_step()
        longer = self._rows[board] + (word,)
        is_let = longer in self._known[self._hall.boards[board][0]]
        if is_let:
            self._rows[board] = longer
        else:
            triple = self._triple(board, word)
            self._refused[triple] = self._refused.get(triple, 0) + 1
        self._log.append(("said", board, word, is_let))
        return is_let

    def wait(self):
        """The guest waits: the ascending list of what masters answer now, or [], and then the hall is closed."""
        if self._is_closed:
            raise Over()
        self._keep_step()
        answers = []
        for board in self._answered_boards():
            answers.append((board, self._answer(board)))
        self._is_closed = len(answers) == 0
        return answers

    def closed(self):
        """Tells whether the hall is closed."""
        return self._is_closed

    def games(self):
        """Games for the hall by which all was let that was let, and nothing that was refused."""
        return {name: tuple(sorted(self._known[name])) for name in self._hall.names}

    def back(self):
        """Takes back the last say or wait that is not taken back."""
        if len(self._steps) == 0:
            raise NothingDone()
        length, self._pursued = self._steps.pop()
        self._is_closed = False
        while len(self._log) > length:
            self._undo(self._log.pop())

    def _keep_step(self):
        """Keeps what is needed to take back what is done now."""
        self._steps.append((len(self._log), self._pursued))

    def _check(self, board, word):
        """Raises what is wrong with a word that the guest says on a board."""
        if self._is_closed:
            raise Over()
        if not is_within(board, 0, len(self._rows) - 1):
            raise NoBoard()
        if not is_word(word):
            raise NoWord()
        if not is_turn(self._hall.boards[board], self._rows[board]):
            raise NotTurn()

    def _triple(self, board, word):
        """The triple by which a word is refused on a board now."""
        return (self._hall.boards[board][0], self._rows[board], word)

    def _answered_boards(self):
        """The boards on which masters answer now, ascending; there are none if the aim is missed as it stands."""
        won = self.won()
        if not is_reached(self._aim, won, len(self._rows)):
            return []
        lone = lone_pairs(self._hall, self._rows)
        paired = [board for couple in lone for board in couple]
        loose = [board for board in won if board not in paired]
        if loose:
            return loose
        self._pursue(lone)
        outcome = self._spoiled[self._pursued]
        return [board for board in won if board not in outcome]

    def _pursue(self, couples):
        """Sees that the pairing that is pursued has all of some pairs."""
        if self._pursued is None or not has_all(self._pursued, couples):
            self._pursued = [pairing for pairing in self._spoiled if has_all(pairing, couples)][0]

    def _answer(self, board):
        """Answers a word on a board that is new at its row, and returns it."""
        known = self._known[self._hall.boards[board][0]]
        row = self._rows[board]
        number = 0
        while row + (word_at(number),) in known or self._triple(board, word_at(number)) in self._refused:
            number += 1
        word = word_at(number)
        known[row + (word,)] = True
        self._rows[board] = row + (word,)
        self._log.append(("answered", board, word))
        return word

    def _undo(self, item):
        """Takes back an item that was the last one of the log."""
        board, word = item[1], item[2]
        if item[-1] is False:
            triple = self._triple(board, word)
            self._refused[triple] -= 1
            if self._refused[triple] == 0:
                del self._refused[triple]
            return
        if item[0] == "answered":
            del self._known[self._hall.boards[board][0]][self._rows[board]]
        self._rows[board] = self._rows[board][:-1]


def led_by_foe(hall, aim, guest):
    """Leads a guest against a foe until the hall is closed: the boards that are won, the log, and the games."""
    foe = Foe(hall, aim)
    while not foe.closed():
        if not guest_said(hall, foe, guest):
            foe.wait()
    return (foe.won(), foe.log(), foe.games())
