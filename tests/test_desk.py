"""17.1 and 17.2: the desk."""

import random
import unittest

from tests.helpers import Case, chance_aim, chance_hall, fresh_hall, odd_things
from untoldgames.desk import Desk
from untoldgames.errors import HallError
from untoldgames.halls import Hall, turned
from untoldgames.house import enough
from untoldgames.meeting import met_spoiler
from untoldgames.pairs import pairs
from untoldgames.points import most_points
from untoldgames.texts import aim_text, hall_text
from untoldgames.verdicts import is_sure, sure

H = "g first -|g first -|g second -|"
F = "some(all(0,1),2)"
KEYS = ("a", "b", "h", "abcdefgh")


def line_of(hall):
    """The TEXT of a hall."""
    return hall_text(hall).replace("\n", "|")


def desk_of(*lines):
    desk = Desk()
    for line in lines:
        desk.tell(line)
    return desk


def seen(desk):
    """All that a desk tells of what it keeps, and of what can be taken back of it."""
    told = [desk.undoable()]
    told.append(desk.tell("keys"))
    if told[1] != "none":
        told += [desk.tell(f"show {key}") for key in told[1].split(" ")]
    return told


def told_lot(lot):
    return ",".join(str(board) for board in lot) or "-"


class Kept(Case):
    def test_keys(self):
        desk = Desk()
        self.tells("none", desk.tell("keys"))
        self.tells(0, desk.undoable())
        self.tells("ok", desk.tell(f"hall h {H}"))
        self.tells("ok", desk.tell("hall abcdefgh g second a|"))
        self.tells("ok", desk.tell("hall a x first -|"))
        self.tells("a abcdefgh h", desk.tell("keys"))
        self.tells("g second a|", desk.tell("show abcdefgh"))
        self.tells(H, desk.tell("show h"))
        self.tells(3, desk.undoable())
        self.tells("ok", desk.tell("drop abcdefgh"))
        self.tells("a h", desk.tell("keys"))
        self.tells(4, desk.undoable())
        self.raises("NoKey", {"key": "abcdefgh"}, desk.tell, "show abcdefgh")
        self.tells("ok", desk.tell("hall abcdefgh y first -|"))
        self.tells("y first -|", desk.tell("show abcdefgh"))

    def test_elder_halls(self):
        desk = desk_of(f"hall h {H}", "hall h g first -|")
        self.tells("g first -|", desk.tell("show h"))
        self.tells("h", desk.tell("keys"))
        self.tells(2, desk.undoable())
        self.tells("ok", desk.tell("undo"))
        self.tells(H, desk.tell("show h"))
        self.tells("ok", desk.tell("undo"))
        self.tells("none", desk.tell("keys"))
        self.raises("NothingDone", {}, desk.tell, "undo")

    def test_undo_of_a_drop(self):
        desk = desk_of(f"hall h {H}", "hall a g first -|", "drop h")
        self.tells("ok", desk.tell("undo"))
        self.tells([2, "a h", "g first -|", H], seen(desk))
        self.tells("ok", desk.tell("drop a"))
        self.tells("ok", desk.tell("drop h"))
        self.tells("none", desk.tell("keys"))
        for right in ([3, "h", H], [2, "a h", "g first -|", H], [1, "h", H], [0, "none"]):
            self.tells("ok", desk.tell("undo"))
            self.tells(right, seen(desk))
        self.raises("NothingDone", {}, desk.tell, "undo")
        self.tells([0, "none"], seen(desk))

    def test_kept_dropped_and_kept_anew(self):
        desk = desk_of("hall a x first -|", "drop a", "hall a y first -|")
        self.tells([3, "a", "y first -|"], seen(desk))
        desk.tell("undo")
        self.raises("NoKey", {"key": "a"}, desk.tell, "show a")
        desk.tell("undo")
        self.tells([1, "a", "x first -|"], seen(desk))
        # What was taken back does not come again.
        self.tells("ok", desk.tell("hall b z second -|"))
        desk.tell("undo")
        self.tells([1, "a", "x first -|"], seen(desk))

    def test_only_halls_and_drops_are_taken_back(self):
        desk = desk_of(f"hall h {H}")
        for line in ("keys", "show h", "turned h", "pairs h", "sure h 0", "met h 0", "enough h 0", "points h 1,2,3"):
            desk.tell(line)
            self.tells(1, desk.undoable())
        desk.tell("undo")
        self.tells(0, desk.undoable())

    def test_keys_that_are_words_of_lines(self):
        desk = desk_of("hall keys g first -|", "hall undo g second -|", "hall hall h first -|", "hall drop h second -|")
        self.tells([4, "drop hall keys undo", "h second -|", "h first -|", "g first -|", "g second -|"], seen(desk))
        self.tells("g second -|", desk.tell("turned keys"))
        self.tells("none", desk.tell("pairs undo"))
        self.tells("never", desk.tell("sure hall 0"))
        self.tells("ok", desk.tell("drop keys"))
        self.tells("ok", desk.tell("drop undo"))
        self.tells("ok", desk.tell("drop drop"))
        self.tells([7, "hall", "h first -|"], seen(desk))

    def test_two_desks(self):
        one, other = desk_of(f"hall h {H}"), desk_of("hall h g first -|", "hall a x first -|")
        one.tell("hall b y first -|")
        self.tells([2, "b h", "y first -|", H], seen(one))
        self.tells([2, "a h", "x first -|", "g first -|"], seen(other))
        other.tell("undo")
        other.tell("undo")
        self.tells([2, "b h", "y first -|", H], seen(one))
        self.tells([0, "none"], seen(other))
        self.assertFalse(one == other)
        for thing in odd_things():
            self.assertFalse(one == thing)


class Asked(Case):
    def setUp(self):
        self.desk = desk_of(
            f"hall h {H}", "hall a g first -|", "hall b g first -|g second a|h first x|g second -|h first x|",
            "hall names g first -|h second -|g second -|h first -|x first -|")

    def tell(self, right, line):
        self.tells(right, self.desk.tell(line))

    def test_turned_and_pairs(self):
        self.tell("g second -|g second -|g first -|", "turned h")
        self.tell("g second -|g first a|h second x|g first -|h second x|", "turned b")
        self.tell("0-2 1-2", "pairs h")
        self.tell("none", "pairs a")
        self.tell("0-1 0-3", "pairs b")

    def test_sure(self):
        self.tell("0-2", "sure h some(0,2)")
        self.tell("never", f"sure h {F}")
        self.tell("none", "sure a all()")
        self.tell("never", "sure a 0")
        self.tell("0-2 1-3", "sure names all(some(0,2),some(1,3))")
        self.tell("0-2 1-3", "sure names least 2(0,1,2,3)")

    def test_met(self):
        self.tell("yes", f"met h {F}")
        self.tell("no", "met h 0")
        self.tell("yes", "met h all()")
        self.tell("no", "met h some()")
        self.tell("yes", "met names all(some(0,2),some(1,3))")

    def test_enough(self):
        self.tell("0,2", "enough h some(0,2)")
        self.tell("0,2 1,2", "enough h some(0,1,2)")
        self.tell("never", f"enough h {F}")
        self.tell("-", "enough h all()")
        self.tell("-", "enough h least 0(some())")
        self.tell("0,1,2,3", "enough names all(some(0,2),some(1,3))")

    def test_points(self):
        self.tell("4", "points h 3,5,4")
        self.tell("0", "points h 0,0,0")
        self.tell("999999999", "points h 0,999999999,999999999")
        self.tell("0", "points a 7")
        self.tell("11", "points names 5,6,7,8,9")

    def test_like_the_functions_by_chance(self):
        chance = random.Random(171)
        told = {}
        for _ in range(120):
            hall = chance_hall(chance, 6, begun=((), (), ("a",), ("b",), ("a", "b")))
            many = len(hall.boards)
            numbers = tuple(range(many))
            aim = chance.choice((chance_aim(chance, many), ("some", tuple(chance.choices(numbers, k=3))),
                                 ("least", chance.randint(0, 3), numbers)))
            desk, text = desk_of(f"hall key {line_of(hall)}"), aim_text(aim)
            self.tells(line_of(hall), desk.tell("show key"))
            self.tells(line_of(turned(hall)), desk.tell("turned key"))
            self.tells(" ".join(f"{one}-{other}" for one, other in pairs(hall)) or "none", desk.tell("pairs key"))
            found = desk.tell(f"sure key {text}")
            if sure(hall, aim) is None:
                self.tells("never", found)
            else:
                pairing = () if found == "none" else tuple(
                    tuple(int(board) for board in pair.split("-")) for pair in found.split(" "))
                self.assertTrue(is_sure(hall, aim, pairing))
            told[found in ("never", "none") and found] = told.get(found in ("never", "none") and found, 0) + 1
            self.tells(" ".join(told_lot(lot) for lot in enough(hall, aim)) or "never", desk.tell(f"enough key {text}"))
            points = tuple(chance.choice((0, 1, 5, 999999999)) for _ in numbers)
            self.tells(str(most_points(hall, points)[0]), desk.tell("points key " + ",".join(map(str, points))))
            if all(board[2] == () for board in hall.boards):
                self.tells("yes" if met_spoiler(hall, aim) is None else "no", desk.tell(f"met key {text}"))
            else:
                self.raises("NotFresh", {}, desk.tell, f"met key {text}")
            self.tells(1, desk.undoable())
        self.assertGreater(min(told.values()), 3)
        self.assertEqual(len(told), 3)


class NoLine(Case):
    def setUp(self):
        self.desk = desk_of(f"hall h {H}", "hall a g first -|", "drop a")
        self.before = seen(self.desk)

    def wrong(self, *lines):
        for line in lines:
            self.raises("NoLine", {}, self.desk.tell, line)
        self.assertEqual(seen(self.desk), self.before)

    def test_forms(self):
        self.wrong("", " ", "x", "h", "help", "halls h", "Keys", "KEYS", "key", "keys h", "keys ", " keys", "undo h",
                   "undo ", " undo", "Undo", "redo", "|", "\t", "~")
        for verb in ("drop", "show", "turned", "pairs"):
            self.wrong(verb, f"{verb} ", f"{verb}  h", f"{verb} h ", f" {verb} h", f"{verb} h h", f"{verb}h", f"{verb} H",
                       f"{verb} h1", f"{verb} {'a' * 9}", f"{verb} -", f"{verb}\th", f"{verb.upper()} h", f"{verb} h\t",
                       f"{verb} h,a", f"{verb} h 0")
        for verb in ("hall", "sure", "met", "enough", "points"):
            self.wrong(verb, f"{verb} ", f"{verb} h", f"{verb} h ", f"{verb}  h 0", f" {verb} h 0", f"{verb} H 0",
                       f"{verb} {'a' * 9} 0", f"{verb} h1 0", f"{verb}\th 0", f"{verb} h\t0", f"{verb.upper()} h 0",
                       f"{verb}  0", f"{verb} - 0")

    def test_points(self):
        for numbers in ("3,5,", ",3,5", "3,,5", "3, 5,4", "3,5 ,4", " 3,5,4", "3,5,4 ", "3 5 4", "-", "a,b,c", "3,5,-4", "3,5,+4",
                        "3,5,04", "3,5,00", "3,5,1000000000", "3,5," + "9" * 5000, "3;5;4", "3,5,4.", "3,5,0x4", "3,5,1_0",
                        "all()", "3,5,4\t", ","):
            self.wrong(f"points h {numbers}")
            # It is none, whether there is a hall under the key or not.
            self.wrong(f"points x {numbers}")

    def test_line_feeds(self):
        self.wrong("keys\n", "\nkeys", "show h\n", "hall h g first -\n", "hall h g first -|\n", "sure h 0\n",
                   "sure h all(0,\n1)", "\n", "points h 3,5,4\n", "hall h\ng first -|", "undo\n")

    def test_no_strings(self):
        for thing in odd_things():
            if not isinstance(thing, str):
                self.wrong(thing)


class Errors(Case):
    def setUp(self):
        self.desk = desk_of(f"hall h {H}", "hall begun g first -|g second a|", "hall a g first -|", "drop a")
        self.before = seen(self.desk)

    def wrong(self, name, fields, *lines):
        for line in lines:
            self.raises(name, fields, self.desk.tell, line)
        self.assertEqual(seen(self.desk), self.before)
        # What can be taken back is as it was, too.
        other = desk_of(f"hall h {H}", "hall begun g first -|g second a|", "hall a g first -|", "drop a")
        self.assertEqual(self.desk.undoable(), other.undoable())

    def test_texts(self):
        self.wrong("BadText", {"line": 1}, "hall h g first -", "hall x g first", "hall h x|", "hall h |", "hall h  ",
                   f"hall h  {H}", "hall h \t", "hall h ||", "hall h g first -  |", "hall h h")
        self.wrong("BadText", {"line": 2}, "hall h g first -|x|", "hall h g first -| ", "hall h g first -|g second a",
                   "hall h g first -||")
        self.wrong("BadText", {"line": 14}, "hall h " + "g first -|" * 13 + "x")
        self.wrong("BadHall", {"at": -1}, "hall h " + "g first -|" * 13)
        self.wrong("BadHall", {"at": 1}, "hall h g first -|g first " + ",".join(["a"] * 21) + "|")

    def test_keys(self):
        for line in ("drop a", "show a", "turned a", "pairs a", "sure a 0", "met a 0", "enough a 0", "points a 7"):
            self.wrong("NoKey", {"key": "a"}, line)
            self.wrong("NoKey", {"key": "abcdefgh"}, line.replace(" a", " abcdefgh"))
        # A key that is lacking is told ahead of what is no aim, and of too few numbers.
        self.wrong("NoKey", {"key": "a"}, "sure a x", "met a  ", "enough a all(", "points a 1,2,3", "sure a 0 1", "met a |")

    def test_aims(self):
        for verb in ("sure", "met", "enough"):
            for text in ("x", " ", "  ", "3", "all(3)", "all(0", "some(0, 1)", "0 1", " 0", "0 ", "-1", "1000001", "least(0)",
                         "least 26(0)", "\t", "|", "all(0)|", "all(" * 5000, "9" * 5000, "all(" * 8 + "0" + ")" * 8):
                self.wrong("NoAim", {}, f"{verb} h {text}")
        # It is told ahead of a hall that is not fresh.
        self.wrong("NoAim", {}, "met begun 2", "met begun x")
        self.wrong("NotFresh", {}, "met begun 1", "met begun all()")
        self.tells("0-1", self.desk.tell("sure begun some(0,1)"))

    def test_points(self):
        self.wrong("NoPoints", {}, "points h 3,5", "points h 3", "points h 3,5,4,1", "points h " + ",".join(["1"] * 300))

    def test_nothing_done(self):
        desk = Desk()
        self.raises("NothingDone", {}, desk.tell, "undo")
        self.raises("NoKey", {"key": "h"}, desk.tell, "drop h")
        self.tells(0, desk.undoable())
        self.raises("BadText", {"line": 1}, desk.tell, "hall h x")
        self.raises("NothingDone", {}, desk.tell, "undo")

    def test_too_many(self):
        wide = "g first -|" * 5 + "g second -|" * 7
        desk = desk_of(f"hall h {wide}")
        self.raises("TooMany", {"most": 2000}, desk.tell, "sure h 0")
        self.raises("TooMany", {"most": 2000}, desk.tell, "points h " + ",".join(["1"] * 12))
        self.raises("NoPoints", {}, desk.tell, "points h " + ",".join(["1"] * 13))
        self.raises("NoAim", {}, desk.tell, "sure h 12")
        self.tells("yes", desk.tell("met h all(some(0,5),some(4,11))"))
        self.tells("0,5", desk.tell("enough h some(0,5)"))
        self.tells([1, "h", wide], seen(desk))


class ByChance(Case):
    """A desk against a dict and a list of dicts."""

    RIGHT = tuple(line_of(fresh_hall(1, many)) for many in range(3))
    WRONG = ("g first", "x|", "g first -|" * 13)

    def test_lines(self):
        chance = random.Random(172)
        for _ in range(30):
            desk, steps = Desk(), [{}]
            for _ in range(60):
                self.step(chance, desk, steps)
                keys = sorted(steps[-1])
                right = [len(steps) - 1, " ".join(keys) or "none"] + [steps[-1][key] for key in keys]
                self.tells(right, seen(desk))

    def step(self, chance, desk, steps):
        """Tells the desk a line; steps has the halls ahead of each deed that can be taken back, and those now."""
        verb, key, halls = chance.choice(("hall", "hall", "drop", "undo", "wrong")), chance.choice(KEYS), steps[-1]
        if verb == "hall":
            text = chance.choice(self.RIGHT)
            self.tells("ok", desk.tell(f"hall {key} {text}"))
            steps.append({**halls, key: text})
        elif verb == "wrong":
            with self.assertRaises(HallError):
                desk.tell(f"hall {key} {chance.choice(self.WRONG)}")
        elif verb == "drop" and key not in halls:
            self.raises("NoKey", {"key": key}, desk.tell, f"drop {key}")
        elif verb == "drop":
            self.tells("ok", desk.tell(f"drop {key}"))
            steps.append({other: halls[other] for other in halls if other != key})
        elif len(steps) == 1:
            self.raises("NothingDone", {}, desk.tell, "undo")
        else:
            self.tells("ok", desk.tell("undo"))
            steps.pop()


class Same(Case):
    def test_equal_lines_give_equal_answers(self):
        hall = Hall((("g", 0, ()), ("g", 0, ()), ("g", 1, ()), ("g", 1, ())))
        for line in ("pairs h", "sure h some(0,2)", "sure h least 2(0,1,2,3)", "enough h some(0,2)", "points h 1,2,3,4"):
            told = [desk_of(f"hall h {line_of(hall)}").tell(line) for _ in range(2)]
            self.tells(told[0], told[1])


if __name__ == "__main__":
    unittest.main()
