"""Reading: halls, games, logs and aims of their texts."""

from untoldgames.aims import MOST_DEEP, is_any_aim
from untoldgames.errors import BadText, NoText
from untoldgames.games import MOST_ROWS
from untoldgames.halls import Hall
from untoldgames.kinds import is_name, is_row
from untoldgames.logs import has_item_form
from untoldgames.texts import MANY_BOARDS, SIDES

MOST_FIGURES = 9
FIGURES = "0123456789"
FLAGS = {"yes": True, "no": False}


def number_of(text):
    """The number of which something is the text, or None if there is none."""
    if not 1 <= len(text) <= MOST_FIGURES or not all([sign in FIGURES for sign in text]):
        return None
    return None if len(text) > 1 and text[0] == "0" else int(text)


def row_of(text):
    """The row of which something is the text, or None if there is none."""
    row = () if text == "-" else tuple(text.split(","))
    return row if is_row(row) else None


def board_of(line):
    """The board, whose row may be too long for one, of which something is the line, or None if there is none."""
    words = line.split(" ")
    if len(words) != 3 or not is_name(words[0]) or words[1] not in SIDES:
        return None
    row = row_of(words[2])
    return None if row is None else (words[0], SIDES.index(words[1]), row)


def name_of(line):
    """The name of which something is the line, or None if there is none."""
    words = line.split(" ")
    return words[1] if len(words) == 2 and words[0] == "game" and is_name(words[1]) else None


def item_of(line):
    """The item of a log of which something is the line, or None if there is none."""
    words = line.split(" ")
    if len(words) not in (3, 4):
        return None
    item = (words[0], number_of(words[1]), words[2])
    if len(words) == 4:
        item = item + (FLAGS.get(words[3]),)
    return item if has_item_form(item, MANY_BOARDS) else None


def lines_of(text):
    """The list of the lines of a text, and behind them what stands behind the last line feed."""
    if not isinstance(text, str):
        raise BadText(0)
    return text.split("\n")


def check_closed(lines):
    """Raises BadText if by what lines_of told something stands behind the last line feed."""
    if lines[-1] != "":
        raise BadText(len(lines))


def things_of(text, thing_of):
    """The list of what a function tells of each line of a text; raises BadText for the first of which it tells None."""
    lines = lines_of(text)
    found = []
    for at, line in enumerate(lines[:-1]):
        thing = thing_of(line)
        if thing is None:
            raise BadText(at + 1)
        found.append(thing)
    check_closed(lines)
    return found


def read_hall(text):
    """The hall of which something is the text."""
    boards = tuple(things_of(text, board_of))
    if boards == ():
        raise BadText(1)
    return Hall(boards)


def can_stand_behind(rows, last, row):
    """Tells whether something, if it is a row, can stand in a game behind those rows, the last one of them told."""
    if row is None or row <= last or len(rows) == MOST_ROWS:
        return False
    return row[:-1] in rows


def read_games(text):
    """The games of which something is the text."""
    lines = lines_of(text)
    # For each name a dict that has the rows of its game as keys; all names are above the empty string.
    games = {}
    last_name, last_row = "", ()
    for at, line in enumerate(lines[:-1]):
        name, row = name_of(line), row_of(line)
        if name is not None and name > last_name:
            games[name] = {(): True}
            last_name, last_row = name, ()
        elif last_name != "" and can_stand_behind(games[last_name], last_row, row):
            games[last_name][row] = True
            last_row = row
        else:
            raise BadText(at + 1)
    check_closed(lines)
    return {name: tuple(games[name]) for name in games}


def read_log(text):
    """The list of the items of the log of which something is the text."""
    return things_of(text, item_of)


def kind_of(head):
    """The beginning of the tuple of an aim whose text has this ahead of its bracket, or None if there is none."""
    if head in ("all", "some"):
        return (head,)
    number = number_of(head[6:]) if head.startswith("least ") else None
    return None if number is None else ("least", number)


def aim_at(text, at, deep):
    """What should be an aim, at most so deep, whose text begins at a place, and the place behind it, or None."""
    end = at
    while end < len(text) and text[end] in FIGURES:
        end += 1
    if end > at:
        number = number_of(text[at:end])
        return None if number is None else (number, end)
    bracket = text.find("(", at)
    # How deep it may be is bounded here only so that brackets within one another come to an end.
    kind = kind_of(text[at:bracket]) if bracket >= 0 and deep > 0 else None
    told = None if kind is None else parts_at(text, bracket + 1, deep - 1)
    return None if told is None else (kind + (told[0],), told[1])


def parts_at(text, at, deep):
    """The tuple of what should be aims, at most so deep, whose texts stand from a place up to the closing bracket.

    It is a pair of this and the place behind the bracket, or None.
    """
    if text[at:at + 1] == ")":
        return ((), at + 1)
    parts = []
    while True:
        told = aim_at(text, at, deep)
        if told is None:
            return None
        parts.append(told[0])
        at = told[1] + 1
        sign = text[told[1]:at]
        if sign == ")":
            return (tuple(parts), at)
        if sign != ",":
            return None


def read_aim(text):
    """The aim of which something is the text."""
    told = aim_at(text, 0, MOST_DEEP) if isinstance(text, str) else None
    if told is None or told[1] != len(text) or not is_any_aim(told[0]):
        raise NoText()
    return told[0]
