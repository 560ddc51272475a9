"""Texts: how halls, games, logs and aims are written."""

from untoldgames.aims import is_any_aim
from untoldgames.errors import NoAim, NoLog
from untoldgames.kinds import is_integer
from untoldgames.logs import has_item_form

SIDES = ("first", "second")
# The boards of a log that is written are those from 0 to 999.
MANY_BOARDS = 1000


def row_text(row):
    """The text of a row."""
    return ",".join(row) if row else "-"


def hall_text(hall):
    """The text of a hall."""
    return "".join([f"{name} {SIDES[side]} {row_text(begun)}\n" for name, side, begun in hall.boards])


def games_text(games):
    """The text of games."""
    lines = []
    for name in sorted(games):
        lines.append(f"game {name}\n")
        lines.extend([row_text(row) + "\n" for row in games[name] if row != ()])
    return "".join(lines)


def item_text(item):
    """The line of an item of a log."""
    told = f"{item[0]} {item[1]} {item[2]}"
    if item[0] == "said":
        told = told + (" yes" if item[3] else " no")
    return told + "\n"


def log_text(log):
    """The text of a log, or of what would be one for some hall and some turns."""
    if not isinstance(log, (list, tuple)) or not all([has_item_form(item, MANY_BOARDS) for item in log]):
        raise NoLog()
    return "".join([item_text(item) for item in log])


def written(aim):
    """The text of what is surely an aim."""
    if is_integer(aim):
        return str(aim)
    kind = " ".join([str(part) for part in aim[:-1]])
    parts = ",".join([written(part) for part in aim[-1]])
    return f"{kind}({parts})"


def aim_text(aim):
    """The text of an aim of any hall."""
    if not is_any_aim(aim):
        raise NoAim()
    return written(aim)
