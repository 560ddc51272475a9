"""The desk: halls that are kept under keys, and asked, by lines."""

from untoldgames.aims import check_aim
from untoldgames.errors import NoAim, NoKey, NoLine, NoText, NothingDone
from untoldgames.halls import turned
from untoldgames.house import enough
from untoldgames.kinds import is_name
from untoldgames.meeting import met_spoiler
from untoldgames.pairs import pairs
from untoldgames.points import most_points
from untoldgames.reading import number_of, read_aim, read_hall
from untoldgames.texts import hall_text
from untoldgames.verdicts import sure


def spaced(words, empty):
    """Some words with blanks between, or another word if there are none."""
    return " ".join(words) if words else empty


def pairs_text(couples):
    """The text of some pairs."""
    return spaced([f"{one}-{other}" for one, other in couples], "none")


def lot_text(lot):
    """The text of a lot."""
    return ",".join([str(number) for number in lot]) if lot else "-"


def numbers_of(text):
    """The tuple of the numbers of which something is the text, or None if there is none."""
    numbers = tuple([number_of(word) for word in text.split(",")])
    return None if None in numbers else numbers


def tell_hall(hall):
    """The text of a hall in one line."""
    return hall_text(hall).replace("\n", "|")


def tell_turned(hall):
    """The text of the turned hall in one line."""
    return tell_hall(turned(hall))


def tell_pairs(hall):
    """The text of the pairs of a hall."""
    return pairs_text(pairs(hall))


def tell_sure(hall, aim):
    """The text of a pairing that is sure of an aim."""
    pairing = sure(hall, aim)
    return "never" if pairing is None else pairs_text(pairing)


def tell_met(hall, aim):
    """Tells whether an aim is sure if one and the same master sits at each side."""
    return "yes" if met_spoiler(hall, aim) is None else "no"


def tell_enough(hall, aim):
    """The text of the least lots of boards that are enough."""
    return spaced([lot_text(lot) for lot in enough(hall, aim)], "never")


def tell_points(hall, numbers):
    """The text of the greatest number of points that is sure."""
    return str(most_points(hall, numbers)[0])


# What is asked of a hall alone, and of a hall and an aim.
ASKED = {"show": tell_hall, "turned": tell_turned, "pairs": tell_pairs}
AIMED = {"sure": tell_sure, "met": tell_met, "enough": tell_enough}
# How many words a line has behind its first one, by this one; the second of two may have blanks in it.
FORMS = {
    "keys": 0, "undo": 0, "drop": 1, "show": 1, "turned": 1, "pairs": 1, "hall": 2, "sure": 2, "met": 2, "enough": 2,
    "points": 2}


def words_of(line):
    """The words of a line; raises NoLine for what is none."""
    if not isinstance(line, str) or "\n" in line:
        raise NoLine()
    words = line.split(" ", 2)
    if FORMS.get(words[0]) != len(words) - 1 or "" in words:
        raise NoLine()
    if len(words) > 1 and not is_name(words[1]):
        raise NoLine()
    if words[0] == "points" and numbers_of(words[2]) is None:
        raise NoLine()
    return words


def aim_of(hall, text):
    """The aim of a hall of which something is the text; raises NoAim if there is none."""
    try:
        aim = read_aim(text)
    except NoText:
        raise NoAim()
    check_aim(hall, aim)
    return aim


def told_of(hall, words):
    """What a line that asks something of a hall tells."""
    if words[0] in ASKED:
        action = ASKED[words[0]]
        return action(hall)
    if words[0] in AIMED:
        action = AIMED[words[0]]
        return action(hall, aim_of(hall, words[2]))
    return tell_points(hall, numbers_of(words[2]))


class Desk:
    """Halls under keys, and what can be taken back of what was kept and dropped."""

    def __init__(self):
        # A dict from keys to halls. It is replaced by each deed and never changed, so it can be kept.
        self._halls = {}
        # For each deed that can be taken back the halls ahead of it.
        self._past = []

    def tell(self, line):
        """Does a line, and returns what it tells."""
        words = words_of(line)
        if words[0] == "hall":
            hall = read_hall(words[2].replace("|", "\n"))
            return self._keep({**self._halls, words[1]: hall})
        if words[0] == "keys":
            return spaced(sorted(self._halls), "none")
        if words[0] == "undo":
            return self._undo()
        if words[1] not in self._halls:
            raise NoKey(words[1])
        if words[0] == "drop":
            return self._keep({key: self._halls[key] for key in self._halls if key != words[1]})
        return told_of(self._halls[words[1]], words)

    def undoable(self):
        """How many lines can be taken back."""
        return len(self._past)

    def _keep(self, halls):
        """Keeps other halls from now on, so that it can be taken back."""
        self._past.append(self._halls)
        self._halls = halls
        return "ok"

    def _undo(self):
        """Takes back the last deed that is not taken back."""
        if len(self._past) == 0:
            raise NothingDone()
        self._halls = self._past.pop()
        return "ok"
