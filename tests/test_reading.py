"""16.2: halls, games, logs and aims of their texts."""

import random
import re
import unittest

from tests.helpers import Case, many_words, odd_things
from tests.test_games import chain_of, row_of
from untoldgames.halls import Hall
from untoldgames.reading import read_aim, read_games, read_hall, read_log
from untoldgames.texts import aim_text

# Rows that are none, as texts, and words, and numbers.
NO_ROWS = ("", ",", "a,", ",a", "a,,b", "a, b", "A", "a,B", "a1", "--", "-,a", "a,-", "a" * 21, "a;b", "a\t", "(a)", "a.",
           ",".join(["a"] * 61), "~")
NO_WORDS = ("", "A", "a" * 21, "a1", "-", "a,b", "a\t", "~", "0", "'a'")
NO_NAMES = ("", "G", "a" * 9, "g1", "-", "g,h", "g\t", "~", "0")
NO_NUMBERS = ("", "+1", "-1", "01", "00", "0x1", "1.", "1.0", "1e1", "1_0", "a", "1\t", "-0", "1,", "1234567890", "9" * 5000)
LONGEST = ",".join(["a"] * 60)


class Texts(Case):
    """What all readings of several lines have in common."""

    def wrong(self, function, line, text):
        self.raises("BadText", {"line": line}, function, text)

    def each_wrong(self, function, right, wrong):
        """Checks that each wrong line is told of, at the beginning, behind right lines, and ahead of wrong ones."""
        for line in wrong:
            self.wrong(function, 1, line + "\n")
            self.wrong(function, len(right) + 1, "".join(one + "\n" for one in right) + line + "\n")
            self.wrong(function, 1, line + "\n" + right[0] + "\n" + "?\n")
            self.wrong(function, 1, line + "\n?")
            self.wrong(function, 2, right[0] + "\n" + line + "\n" + "?\n" + right[0])

    def closed(self, function, right):
        """Checks what is told where something stands behind the last line feed, or a line is empty."""
        self.wrong(function, 1, right)
        self.wrong(function, 1, " ")
        self.wrong(function, 2, right + "\n" + right)
        self.wrong(function, 2, right + "\n ")
        self.wrong(function, 2, right + "\n\n")
        self.wrong(function, 1, "\n")
        self.wrong(function, 1, "\n" + right + "\n")
        self.wrong(function, 2, right + "\n\n" + right + "\n")
        self.wrong(function, 1, "?\n" + right)
        self.wrong(function, 1, "\t")

    def no_strings(self, function):
        for thing in odd_things():
            if not isinstance(thing, str):
                self.raises("BadText", {"line": 0}, function, thing)


class ReadHall(Texts):
    def test_halls(self):
        self.tells((("g", 1, ("a",)),), read_hall("g second a\n").boards)
        self.assertIs(type(read_hall("g first -\n")), Hall)
        self.tells((("g", 0, ()), ("abcdefgh", 1, ("a", "b" * 20)), ("first", 0, ("second",))),
                   read_hall("g first -\nabcdefgh second a," + "b" * 20 + "\nfirst first second\n").boards)
        self.tells(("abcdefgh", "first", "g"),
                   read_hall("g first -\nabcdefgh second a," + "b" * 20 + "\nfirst first second\n").names)

    def test_wrong_lines(self):
        wrong = [
            "g first", "g first - -", "first -", "g -", "g 0 -", "g First -", "g third -", "g firs -", " g first -",
            "g first - ", "g  first -", "g first  -", "g\tfirst -", "g first\t-", "game g", "a,b", "said 0 a yes",
            "answered 0 a", "-", "0", "all(0)", "g first a b", "g firstsecond -"]
        wrong += [f"g first {row}" for row in NO_ROWS] + [f"{name} second a" for name in NO_NAMES]
        self.each_wrong(read_hall, ("g first -", "h second a,b"), wrong)

    def test_what_lacks(self):
        self.wrong(read_hall, 1, "")
        self.closed(read_hall, "g first -")
        self.no_strings(read_hall)

    def test_bad_halls(self):
        line = "g first -\n"
        self.tells((("g", 0, ()),) * 12, read_hall(line * 12).boards)
        self.raises("BadHall", {"at": -1}, read_hall, line * 13)
        self.raises("BadHall", {"at": -1}, read_hall, line * 40)
        # A row of at most 60 words has its form, but a board begins with 20 at most.
        long, longer, longest = (f"g first {','.join(['a'] * many)}\n" for many in (20, 21, 60))
        self.tells((("g", 0, row_of(20)),), read_hall(long).boards)
        self.raises("BadHall", {"at": 0}, read_hall, longer)
        self.raises("BadHall", {"at": 2}, read_hall, line + long + longest + line + longer)
        self.raises("BadHall", {"at": -1}, read_hall, longer + line * 12)
        # What has no form is told ahead of that.
        self.wrong(read_hall, 15, line * 14 + "x\n")
        self.wrong(read_hall, 14, line * 13 + "x")
        self.wrong(read_hall, 2, longer + f"g first {','.join(['a'] * 61)}\n")
        self.wrong(read_hall, 2, longest + "g")


class ReadGames(Texts):
    def test_games(self):
        self.tells({}, read_games(""))
        self.tells({"g": ((),)}, read_games("game g\n"))
        self.tells({"g": ((), ("a",), ("a", "b"), ("b",)), "h": ((), ("x",))},
                   read_games("game g\na\na,b\nb\ngame h\nx\n"))
        self.tells({"game": ((), ("game",), ("game", "game"))}, read_games("game game\ngame\ngame,game\n"))
        self.tells({"a": ((), ("a",)), "ab": ((), ("a",)), "b": ((), ("a",))},
                   read_games("game a\na\ngame ab\na\ngame b\na\n"))
        self.assertIsNot(read_games(""), read_games(""))

    def test_wrong_lines(self):
        wrong = [
            "game", "game ", " game g", "game  g", "game g ", "game g h", "Game g", "games g", "game,g h", "a b", "a ",
            " a", "-", "g first -", "said 0 a yes", "answered 0 a", "0", "game -", "game\tg"]
        wrong += [f"game {name}" for name in NO_NAMES]
        right = ("game g", "a", "a,b")
        for line in wrong + list(NO_ROWS):
            if line != "game":
                self.wrong(read_games, 4, "game g\na\na,b\n" + line + "\n")
                self.wrong(read_games, 2, "game g\n" + line + "\n?\n")
            self.wrong(read_games, 1, line + "\n")
        self.each_wrong(read_games, right, [line for line in wrong if line != "game"])

    def test_lines_where_they_cannot_stand(self):
        self.wrong(read_games, 1, "a\n")
        self.wrong(read_games, 1, "a\ngame g\n")
        self.wrong(read_games, 2, "game g\ngame g\n")
        self.wrong(read_games, 2, "game g\ngame f\n")
        self.wrong(read_games, 3, "game g\na\ngame abc\n")
        self.wrong(read_games, 4, "game g\ngame h\na\ngame g\n")
        self.wrong(read_games, 3, "game g\na\na\n")
        self.wrong(read_games, 3, "game g\nb\na\n")
        self.wrong(read_games, 4, "game g\na\nb\na,b\n")
        self.wrong(read_games, 4, "game g\na\na,b\na\n")
        self.wrong(read_games, 3, "game g\na\n-\n")
        self.wrong(read_games, 2, "game g\n-\n")

    def test_beginnings_that_lack(self):
        self.wrong(read_games, 2, "game g\na,b\n")
        self.wrong(read_games, 3, "game g\na\nb,a\n")
        self.wrong(read_games, 3, "game g\na\na,b,c\n")
        # The beginning stands in another game alone.
        self.wrong(read_games, 4, "game g\na\ngame h\na,b\n")
        self.tells({"g": ((), ("a",)), "h": ((), ("b",), ("b", "a"))}, read_games("game g\na\ngame h\nb\nb,a\n"))

    def test_what_lacks(self):
        self.closed(read_games, "game g")
        self.wrong(read_games, 3, "game g\na\na,b")
        self.wrong(read_games, 1, "a")
        self.no_strings(read_games)

    def test_rows_of_sixty_words(self):
        text = "game g\n" + "".join(",".join(["a"] * many) + "\n" for many in range(1, 61))
        self.tells({"g": chain_of(60)}, read_games(text))
        self.wrong(read_games, 62, text + LONGEST + ",a\n")

    def test_six_hundred_rows_and_one_more(self):
        words = many_words(600)
        text = "game g\n" + "".join(word + "\n" for word in words[:599])
        self.assertEqual(len(read_games(text)["g"]), 600)
        self.wrong(read_games, 601, text + words[599] + "\n")
        self.wrong(read_games, 601, text + words[599] + "\ngame h\n")
        both = read_games(text + text.replace("game g", "game h"))
        self.assertEqual([len(game) for game in both.values()], [600, 600])
        self.wrong(read_games, 1201, text + text.replace("game g", "game h") + words[599] + "\n")


class ReadLog(Texts):
    def test_logs(self):
        self.tells([], read_log(""))
        self.tells([("said", 0, "c", False), ("said", 10, "a", True), ("answered", 999, "z" * 20)],
                   read_log("said 0 c no\nsaid 10 a yes\nanswered 999 " + "z" * 20 + "\n"))
        # Whose turn it is says nothing here.
        self.tells([("answered", 0, "a")] * 700, read_log("answered 0 a\n" * 700))
        self.tells([("said", 0, "said", True), ("answered", 1, "yes")], read_log("said 0 said yes\nanswered 1 yes\n"))
        self.assertIsNot(read_log(""), read_log(""))

    def test_wrong_lines(self):
        wrong = [
            "said 0 a", "said 0 yes", "said a yes", "said 0 a yes yes", "said 0 a Yes", "said 0 a True", "said 0 a 1",
            "said 0 a maybe", "said 0 a y", "Said 0 a yes", "say 0 a yes", " said 0 a yes", "said 0 a yes ",
            "said  0 a yes", "said 0  a yes", "said 0 a  yes", "said\t0 a yes", "answered 0 a yes", "answered 0 a no",
            "answered 0", "answered a", "Answered 0 a", "answer 0 a", " answered 0 a", "answered 0 a ", "answered  0 a",
            "answered 0  a", "answered 0 a b", "answered 1000 a", "said 1000 a no", "answered 999999999 a", "g first -",
            "game g", "a,b", "-", "0", "said", "answered", "answered 0 -"]
        wrong += [f"said {number} a yes" for number in NO_NUMBERS] + [f"answered {number} a" for number in NO_NUMBERS]
        wrong += [f"said 0 {word} no" for word in NO_WORDS] + [f"answered 0 {word}" for word in NO_WORDS]
        self.each_wrong(read_log, ("said 0 a yes", "answered 0 b", "said 999 c no"), wrong)

    def test_what_lacks(self):
        self.closed(read_log, "answered 0 a")
        self.no_strings(read_log)


class ReadAim(Case):
    def test_aims(self):
        self.tells(("some", (("all", (0, 1)), 2)), read_aim("some(all(0,1),2)"))
        self.tells(0, read_aim("0"))
        self.tells(10 ** 6, read_aim("1000000"))
        self.tells(("all", ()), read_aim("all()"))
        self.tells(("least", 0, ()), read_aim("least 0()"))
        self.tells(("least", 25, (("some", ()), 3)), read_aim("least 25(some(),3)"))

    def test_wrong_texts(self):
        for text in (
                "", " ", "(", ")", "()", "(0)", "0 ", " 0", "all", "all(", "all)", "all(0", "all0)", "all(0))", "all(0,)",
                "all(,0)", "all(,)", "all(0,,1)", "all(0 ,1)", "all(0, 1)", "all( 0)", "all(0 )", "all (0)", "all()()",
                "all(0)1", "all(0),1", "0,1", "All(0)", "ALL(0)", "al(0)", "alll(0)", "any(0)", "one(0)", "all[0]",
                "all{0}", "all(0]", "all((0))", "all(-)", "-", "a", "all(a)", "some", "some(0)(", "least(0)", "least (0)",
                "least 1 (0)", "least  1(0)", "least1(0)", "least\t1(0)", "least 1", "least 1()1", "Least 1(0)",
                "least 26(0)", "least 01(0)", "least -1(0)", "least +1(0)", "least 1,(0)", "least all()(0)", "all 1(0)",
                "some 1(0)", "least 1000000000(0)", "1000001", "999999999", "all(1000001)", "0\n", "\n0", "all(0)\n",
                "all(\n0)", "all(0,\t1)", "all(0;1)", "all(0.1)", "least 1.0(0)", "0x1", "1e3", "1_0", "all(0,01)",
                "some(all(0,1),2", "some(all(0,1,2)", "some(all(0,1)2)", "some(all(0,1)),2)", "all()all()", "all(some)",
                "all(0,least)", "all(0,least 1)", "g first -\n", "none", "never", ",", "yes"):
            self.raises("NoText", {}, read_aim, text)
        for number in NO_NUMBERS:
            for text in ("{}", "all({})", "some(0,{},1)", "least {}(0)"):
                if text.format(number) != "all()":
                    self.raises("NoText", {}, read_aim, text.format(number))
        for thing in odd_things():
            if not isinstance(thing, str):
                self.raises("NoText", {}, read_aim, thing)

    def test_each_sign(self):
        for sign in map(chr, [9, 10, *range(32, 127)]):
            if sign not in "0123456789":
                for text in (sign, "1" + sign, sign + "1", f"all(1{sign})", f"least 1{sign}(0)", f"all(0{sign}1)"):
                    if text != "all(0,1)":
                        self.raises("NoText", {}, read_aim, text)
                self.raises("BadText", {"line": 1}, read_log, f"said 1{sign} a yes\n")

    def test_bounds(self):
        for inmost, least in (("0", 0), ("all()", ("all", ()))):
            deep = "all(" * 7 + inmost + ")" * 7
            aim = least
            for _ in range(7):
                aim = ("all", (aim,))
            self.tells(aim, read_aim(deep))
            self.raises("NoText", {}, read_aim, "all(" + deep + ")")
            self.raises("NoText", {}, read_aim, "some(0," + deep + ")")
        self.tells(("some", (1,) * 24), read_aim("some(" + ",".join(["1"] * 24) + ")"))
        self.raises("NoText", {}, read_aim, "some(" + ",".join(["1"] * 25) + ")")
        part, less = ("some(" + ",".join(["1"] * many) + ")" for many in (24, 23))
        wide = read_aim("all(" + ",".join([part] * 7 + [less]) + ")")
        self.tells(("all", (("some", (1,) * 24),) * 7 + (("some", (1,) * 23),)), wide)
        self.raises("NoText", {}, read_aim, "all(" + ",".join([part] * 8) + ")")

    def test_large_texts(self):
        for text in (
                "all(" * 100000, "all(" * 100000 + "0" + ")" * 100000, "(" * 100000, "all()" * 10000, ")" * 10000,
                "all(" + ",".join(["0"] * 100000) + ")", "9" * 100000, "all(" + "9" * 5000 + ")",
                "least " + "1" * 5000 + "(0)", "least " * 10000, "a" * 100000 + "(0)", "some(all(" + "," * 10000 + "))",
                "all(" + "all()," * 50000 + "0)", "0" * 5000, "1" * 5000 + "(", "least 1(" * 50000):
            self.raises("NoText", {}, read_aim, text)

    def test_bent_texts_by_chance(self):
        chance = random.Random(165)
        told = {True: 0, False: 0}
        for _ in range(4000):
            text = list(chance.choice(("some(all(0,1),2)", "least 12(3,least 0(),all(4))", "all(10,some(),some(2,30))")))
            for _ in range(chance.randint(1, 3)):
                at = chance.randrange(len(text))
                text[at:at + chance.randrange(2)] = chance.choice(("", "(", ")", ",", " ", "0", "1", "all(", "some", "x"))
            text = "".join(text)
            right = is_aim_text(text)
            told[right] += 1
            if right:
                self.tells(text, aim_text(read_aim(text)))
            else:
                self.raises("NoText", {}, read_aim, text)
        self.assertGreater(min(told.values()), 100)


def is_aim_text(text):
    """Whether something small is the text of an aim, by putting A in the place of what is one, from within."""
    number = "(?:0|[1-9][0-9]{0,8})"
    ahead, behind = "(?:^|(?<=[(,]))", r"(?=[,)]|\Z)"
    left = re.sub(f"{ahead}{number}{behind}", "A", text)
    before = None
    while left != before:
        before = left
        left = re.sub(rf"{ahead}(?:all|some|least {number})\((?:A(?:,A)*)?\){behind}", "A", left)
    if "A" in text or left != "A":
        return False
    leasts = [int(found) for found in re.findall(r"least ([0-9]+)", text)]
    return max(leasts, default=0) <= 25 and max(map(int, re.findall("[0-9]+", "0," + text))) <= 10 ** 6


if __name__ == "__main__":
    unittest.main()
