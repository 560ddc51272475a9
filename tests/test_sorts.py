"""11.1 and 11.2: told in part."""

import copy
import itertools
import random
import unittest

from tests.helpers import (
    Case, all_greatest, all_pairings, chance_aim, chance_hall, fresh_hall, many_pairings, outcomes, reaches, same)
from tests.test_meeting import both_sides, choices, chosen, names_hall
from untoldgames.halls import Hall, joined
from untoldgames.meeting import met_spoiler
from untoldgames.pairs import pairs
from untoldgames.sorts import is_mixed, least_told, mixed
from untoldgames.verdicts import spoilers, sure

H = Hall((("g", 0, ()), ("g", 0, ()), ("g", 1, ())))
F = ("some", (("all", (0, 1)), 2))
# A name told, one met, one strange, and one at whose game the guest sits at one side alone.
FOUR = Hall((("g", 0, ()), ("g", 1, ()), ("h", 0, ()), ("h", 1, ()), ("i", 0, ()), ("i", 1, ()), ("i", 1, ()),
             ("b", 0, ())))
SORTS = {"g": "told", "h": "met", "i": "strange", "b": "told"}
BEGUN = Hall((("g", 0, ()), ("g", 1, ("a",))))
CROWD = joined(fresh_hall(12, 0), fresh_hall(0, 12))
NEVER = ("some", ())
ALWAYS = ("all", ())
KINDS = ("told", "met", "strange")


def strange_couples(hall, sorts):
    """The pairs of boards of strange names."""
    return [couple for couple in pairs(hall) if sorts[hall.boards[couple[0]][0]] == "strange"]


def of_sort(hall, sorts, sort):
    return [name for name in both_sides(hall) if sorts[name] == sort]


def is_sure_with(hall, aim, sorts, choice, pairing):
    """Whether with a choice for the told names a strange pairing is sure, straight by what the document says."""
    return all(
        reaches(aim, chosen(hall, choice) + chosen(hall, met) + outcome)
        for met in choices(of_sort(hall, sorts, "met")) for outcome in outcomes(pairing))


def lost_choices(hall, aim, sorts):
    """The choices for the told names with which no strange pairing is sure."""
    found = all_pairings(strange_couples(hall, sorts))
    return [choice for choice in choices(of_sort(hall, sorts, "told"))
            if not any(is_sure_with(hall, aim, sorts, choice, pairing) for pairing in found)]


def is_paper(hall, aim, sorts, thing):
    """Whether a thing is what mixed can tell, where it is surely of the right form throughout."""
    couples = strange_couples(hall, sorts)
    if thing[0] == "sure":
        return sorted(thing[1]) == choices(of_sort(hall, sorts, "told")) and all(
            pairing in all_pairings(couples) and is_sure_with(hall, aim, sorts, choice, pairing)
            for choice, pairing in thing[1].items())
    return thing[1] in choices(of_sort(hall, sorts, "told")) and sorted(thing[2]) == all_greatest(couples) and all(
        met in choices(of_sort(hall, sorts, "met")) and outcome in outcomes(pairing)
        and not reaches(aim, chosen(hall, thing[1]) + chosen(hall, met) + outcome)
        for pairing, (met, outcome) in thing[2].items())


class Mixed(Case):
    def test_one_name(self):
        self.tells(("sure", {(("g", 0),): (), (("g", 1),): ()}), mixed(H, F, {"g": "told"}))
        self.tells(("sure", {(): ()}), mixed(H, F, {"g": "met"}))
        self.tells(("lost", (), {((0, 2),): ((), (0,)), ((1, 2),): ((), (1,))}), mixed(H, F, {"g": "strange"}))
        self.tells(("sure", {(): ((0, 2),)}), mixed(H, ("some", (0, 2)), {"g": "strange"}))
        self.tells(("lost", (("g", 1),), {(): ((), ())}), mixed(H, ("all", (0, 1)), {"g": "told"}))
        self.tells(("lost", (), {(): ((("g", 1),), ())}), mixed(H, ("all", (0, 1)), {"g": "met"}))

    def test_several_names(self):
        some = ("all", (("some", (0, 1)), ("some", (2, 3)), ("some", (4, 6))))
        self.tells(("sure", {(("g", 0),): ((4, 6),), (("g", 1),): ((4, 6),)}), mixed(FOUR, some, SORTS))
        # What is told ahead lets the guest pair the rest by it; what is met does not.
        by_told = ("some", (("all", (0, ("some", (4, 5)))), ("all", (1, ("some", (4, 6))))))
        self.tells(("sure", {(("g", 0),): ((4, 5),), (("g", 1),): ((4, 6),)}), mixed(FOUR, by_told, SORTS))
        by_met = ("some", (("all", (2, ("some", (4, 5)))), ("all", (3, ("some", (4, 6))))))
        told = mixed(FOUR, by_met, SORTS)
        self.assertEqual(told[0], "lost")
        self.assertIs(is_mixed(FOUR, by_met, SORTS, told), True)
        self.assertEqual(sorted(told[2]), [((4, 5),), ((4, 6),)])
        self.assertEqual({choice for choice, _ in told[2].values()}, {(("h", 0),), (("h", 1),)})

    def test_a_choice_that_loses(self):
        told = mixed(FOUR, ("all", (1, ("some", (4, 5)))), SORTS)
        self.assertEqual(told[:2], ("lost", (("g", 0),)))
        told = mixed(FOUR, ("all", (0, ("some", (4, 5)))), SORTS)
        self.assertEqual(told[:2], ("lost", (("g", 1),)))

    def test_boards_at_one_side_alone_are_lost(self):
        for sort in KINDS:
            self.assertEqual(mixed(FOUR, 7, {**SORTS, "b": sort})[0], "lost")
        alone = fresh_hall(2, 0)
        for sort in KINDS:
            self.tells(("lost", (), {(): ((), ())}), mixed(alone, ("some", (0, 1)), {"g": sort}))
            self.tells(("sure", {(): ()}), mixed(alone, ALWAYS, {"g": sort}))

    def test_always_and_never(self):
        for sorts in itertools.product(KINDS, repeat=4):
            sorts = dict(zip("ghib", sorts))
            for aim, kind in ((ALWAYS, "sure"), (NEVER, "lost")):
                told = mixed(FOUR, aim, sorts)
                self.assertEqual(told[0], kind)
                self.assertTrue(is_paper(FOUR, aim, sorts, told))
                self.assertIs(is_mixed(FOUR, aim, sorts, told), True)

    def test_like_sure_and_met_spoiler(self):
        chance = random.Random(111)
        for _ in range(60):
            hall = chance_hall(chance, 7, "gh", ((),))
            aim = chance_aim(chance, len(hall.boards))
            strange = mixed(hall, aim, {name: "strange" for name in hall.names})
            self.assertEqual(strange[0] == "sure", sure(hall, aim) is not None)
            if strange[0] == "lost":
                self.assertEqual(sorted(strange[2]), sorted(spoilers(hall, aim)))
            for sort in ("told", "met"):
                told = mixed(hall, aim, {name: sort for name in hall.names})
                self.assertEqual(told[0] == "sure", met_spoiler(hall, aim) is None)

    def test_just_one_of_both_by_chance(self):
        chance = random.Random(112)
        told = {"sure": 0, "lost": 0}
        for _ in range(250):
            hall = chance_hall(chance, 8, "ghi", ((),))
            aim = chance_aim(chance, len(hall.boards))
            sorts = {name: chance.choice(KINDS) for name in hall.names}
            paper = mixed(hall, aim, sorts)
            told[paper[0]] += 1
            self.assertEqual(paper[0] == "sure", lost_choices(hall, aim, sorts) == [])
            self.assertTrue(is_paper(hall, aim, sorts, paper), (hall.boards, aim, sorts, paper))
            self.assertIs(is_mixed(hall, aim, sorts, paper), True)
            self.assertTrue(same(paper, mixed(hall, aim, sorts)))
            self.assertIsNot(paper[-1], mixed(hall, aim, sorts)[-1])
        self.assertGreater(min(told.values()), 50)

    def test_eight_names(self):
        hall = names_hall("abcdefgh")
        aim = ("least", 8, tuple(range(16)))
        for sorts in ({name: "told" for name in "abcdefgh"}, {name: "met" for name in "abcdefgh"},
                      {name: KINDS[at % 3] for at, name in enumerate("abcdefgh")}):
            told = mixed(hall, aim, sorts)
            self.assertEqual(told[0], "sure")
            self.assertEqual(len(told[1]), 2 ** list(sorts.values()).count("told"))
            self.assertIs(is_mixed(hall, aim, sorts, told), True)
            told = mixed(hall, ("least", 9, tuple(range(16))), sorts)
            self.assertEqual(told[0], "lost")
            self.assertIs(is_mixed(hall, ("least", 9, tuple(range(16))), sorts, told), True)
        # A single choice of all is lost.
        for choice in (0, 1, 255, 128, 0b10101010):
            lost = tuple(2 * at + 1 - (choice >> at & 1) for at in range(8))
            told = mixed(hall, ("some", lost), {name: "told" for name in "abcdefgh"})
            self.assertEqual(told[1], tuple((name, choice >> at & 1) for at, name in enumerate("abcdefgh")))

    def test_many_cases(self):
        # Twelve two-sided names, so that there are 4096 cases for the only pairing.
        hall = names_hall("abcdefghijkl")
        for known in ("abcdefgh", "efghijkl", "", "ag"):
            for sort in ("told", "met"):
                sorts = {name: sort if name in known else "strange" for name in "abcdefghijkl"}
                self.assertEqual(mixed(hall, ("least", 12, tuple(range(24))), sorts)[0], "sure")
                for choice in (0, 1, 1 << 11, 1 << 7, 0b101010101010):
                    lost = tuple(2 * at + 1 - (choice >> at & 1) for at in range(12))
                    told = mixed(hall, ("some", lost), sorts)
                    self.assertEqual(told[0], "lost")
                    self.assertIs(is_mixed(hall, ("some", lost), sorts, told), True)
                    won = 2 * 11 + (choice >> 11 & 1)
                    self.assertEqual(mixed(hall, ("some", lost + (won,)), sorts)[0], "sure")

    def test_many_pairings(self):
        hall = many_pairings(2000)
        sorts = {"g": "strange", "h": "strange", "i": "strange"}
        self.assertEqual(mixed(hall, ("least", 5, tuple(range(20))), sorts)[0], "sure")
        told = mixed(hall, ("least", 6, tuple(range(20))), sorts)
        self.assertEqual((told[0], len(told[2])), ("lost", 2000))
        self.assertIs(is_mixed(hall, ("least", 6, tuple(range(20))), sorts, told), True)

    def test_arguments_stay(self):
        sorts, aim = dict(SORTS), ("some", (0, 1))
        paper = mixed(FOUR, aim, sorts)
        before = copy.deepcopy(paper)
        is_mixed(FOUR, aim, sorts, paper)
        self.assertEqual((sorts, aim, paper), (SORTS, ("some", (0, 1)), before))


class Errors(Case):
    def each(self, name, fields, hall, aim, sorts):
        """Checks that both functions raise an error."""
        self.raises(name, fields, mixed, hall, aim, sorts)
        self.raises(name, fields, is_mixed, hall, aim, sorts, None)

    def test_not_fresh(self):
        self.each("NotFresh", {}, BEGUN, None, None)
        self.each("NotFresh", {}, joined(CROWD, BEGUN), 0, {"g": "strange"})

    def test_no_aim(self):
        self.refuses_odd("NoAim", lambda thing: mixed(H, thing, None), (0, 1, 2))
        self.refuses_odd("NoAim", lambda thing: is_mixed(H, thing, None, None), (0, 1, 2))
        self.each("NoAim", {}, H, 3, {"g": "strange"})
        self.each("NoAim", {}, joined(CROWD, H), 27, {})

    def test_no_sorts(self):
        self.refuses_odd("NoSorts", lambda thing: mixed(H, F, thing))
        self.refuses_odd("NoSorts", lambda thing: is_mixed(H, F, thing, None))
        self.refuses_odd("NoSorts", lambda thing: mixed(H, F, {"g": thing}))
        for sorts in (
                {}, {"h": "told"}, {"g": "told", "h": "told"}, {"g": "Told"}, {"g": "tolds"}, {"g": ""}, {"g": None},
                {"g": b"told"}, {"g": ("told",)}, {"g": ["told"]}, [("g", "told")], (("g", "told"),), "told", ["g"],
                {b"g": "told"}, {"g": {"told": 1}}, {0: "told"}):
            self.each("NoSorts", {}, H, F, sorts)
        less = {name: sort for name, sort in SORTS.items() if name != "b"}
        self.each("NoSorts", {}, FOUR, 0, less)
        self.each("NoSorts", {}, joined(CROWD, H), 0, {})

    def test_many_names(self):
        nine = names_hall("abcdefghi")
        for sort in ("told", "met"):
            sorts = {name: sort for name in "abcdefghi"}
            self.each("TooMany", {"most": 8}, nine, ALWAYS, sorts)
            self.each("TooMany", {"most": 8}, nine, ALWAYS, {**sorts, "a": "told", "b": "met"})
            self.assertEqual(mixed(nine, ALWAYS, {**sorts, "e": "strange"})[0], "sure")
            # A name that is not two-sided does not count.
            more = joined(names_hall("abcdefgh"), Hall((("i", 1, ()), ("j", 0, ()))))
            self.assertEqual(mixed(more, ALWAYS, {**sorts, "j": "told"})[0], "sure")
            # It is raised ahead of what comes of the boards.
            self.each("TooMany", {"most": 8}, joined(nine, fresh_hall(12, 0, "z")), ALWAYS, {**sorts, "z": "met"})

    def test_many_boards(self):
        hall = joined(fresh_hall(12, 0), fresh_hall(0, 12, "h"))
        sorts = {"g": "met", "h": "told"}
        self.assertEqual(mixed(hall, ALWAYS, sorts)[0], "sure")
        more = joined(hall, fresh_hall(1, 0, "i"))
        self.each("TooMany", {"most": 24}, more, ALWAYS, {**sorts, "i": "told"})
        self.each("TooMany", {"most": 24}, joined(CROWD, fresh_hall(1, 0)), ALWAYS, {"g": "strange"})
        self.each("TooMany", {"most": 24}, joined(CROWD, fresh_hall(1, 0)), ALWAYS, {"g": "told"})

    def test_many_pairings(self):
        self.each("TooMany", {"most": 2000}, CROWD, ALWAYS, {"g": "strange"})
        # Pairs of names that are not strange do not count.
        self.assertEqual(mixed(CROWD, ALWAYS, {"g": "told"})[0], "sure")
        self.assertEqual(mixed(CROWD, ALWAYS, {"g": "met"})[0], "sure")
        # 42 * 6 * 8 pairings.
        boards = fresh_hall(2, 7, "g").boards + fresh_hall(2, 3, "h").boards + fresh_hall(1, 8, "i").boards
        hall = joined(Hall(boards[:12]), Hall(boards[12:]))
        sorts = {name: "strange" for name in "ghi"}
        self.each("TooMany", {"most": 2000}, hall, ALWAYS, sorts)
        self.assertEqual(len(mixed(hall, NEVER, {**sorts, "h": "told"})[2]), 336)


class IsMixed(Case):
    SURE = ("all", (("some", (0, 1)), ("some", (2, 3)), ("some", (4, 6))))
    RIGHT = ("sure", {(("g", 0),): ((4, 6),), (("g", 1),): ((4, 6),)})
    LOST = ("all", (1, 3, ("some", (4, 5))))
    WRONG = ("lost", (("g", 1),), {((4, 5),): ((("h", 0),), (4,)), ((4, 6),): ((("h", 1),), (6,))})

    def judge(self, flag, aim, thing):
        self.assertIs(is_mixed(FOUR, aim, SORTS, thing), flag, thing)

    def test_right_papers(self):
        self.judge(True, self.SURE, self.RIGHT)
        self.judge(True, self.LOST, self.WRONG)
        # Each of both is just where it belongs.
        self.judge(False, self.LOST, self.RIGHT)
        self.judge(False, self.SURE, self.WRONG)
        # No greatest pairing is needed where it is sure.
        self.judge(True, ALWAYS, ("sure", {(("g", 0),): (), (("g", 1),): ((4, 5),)}))
        self.judge(True, ("some", (0, 4, 6)), ("sure", {(("g", 0),): (), (("g", 1),): ((4, 6),)}))

    def test_spoiled_sure(self):
        book = self.RIGHT[1]
        for thing in (
                ("sure", {}), ("sure", {(("g", 0),): ((4, 6),)}), ("sure", {**book, (): ((4, 6),)}),
                ("sure", {**book, (("g", 1),): ((4, 5),)}), ("sure", {**book, (("g", 1),): ()}),
                ("sure", {(("g", 0),): ((4, 6),), (("h", 1),): ((4, 6),)}),
                ("sure", {(("g", 0),): ((4, 6),), (("g", True),): ((4, 6),)}),
                ("sure", {(("g", False),): ((4, 6),), (("g", 1),): ((4, 6),)}),
                ("sure", {(("g", 0),): ((4, 6),), (("g", 2),): ((4, 6),)}),
                ("sure", {("g", 0): ((4, 6),), ("g", 1): ((4, 6),)}),
                ("sure", {(("g", 0), ("h", 0)): ((4, 6),), (("g", 1), ("h", 0)): ((4, 6),)}),
                ("sure", {**book, (("g", 1),): [(4, 6)]}), ("sure", {**book, (("g", 1),): ([4, 6],)}),
                ("sure", {**book, (("g", 1),): ((6, 4),)}), ("sure", {**book, (("g", 1),): ((4, 6), (4, 6))}),
                ("sure", {**book, (("g", 1),): ((4, 5), (4, 6))}), ("sure", {**book, (("g", 1),): None}),
                ("sure", {**book, (("g", 1),): ((0, 1), (4, 6))}), ("sure", {**book, (("g", 1),): ((2, 3), (4, 6))}),
                ("sure", book, None), ("sure",), ["sure", book], ("Sure", book), ("lost", book), (b"sure", book),
                ("sure", [((("g", 0),), ((4, 6),))]), ("sure", None), book, ("sure", ()), (None, book), (),
                (["sure"], book), ({}, book)):
            self.judge(False, self.SURE, thing)

    def test_pairs_that_are_not_strange(self):
        # These boards would do, but they are no pair here.
        for pairing in (((0, 1),), ((2, 3),), ((0, 1), (4, 6)), ((2, 3), (4, 6))):
            self.judge(False, ALWAYS, ("sure", {(("g", 0),): pairing, (("g", 1),): pairing}))
            self.judge(False, NEVER, ("lost", (("g", 0),), {((4, 5),): ((("h", 0),), (4,)),
                                                            pairing: ((("h", 0),), (0,))}))

    def test_spoiled_lost(self):
        book = self.WRONG[2]
        first, page = ((4, 5),), ((("h", 0),), (4,))
        for thing in (
                ("lost", (("g", 1),), {}), ("lost", (("g", 1),), {first: page}),
                ("lost", (("g", 1),), {**book, (): ((("h", 0),), ())}), ("lost", (), book),
                ("lost", (("g", True),), book), ("lost", (("g", 2),), book), ("lost", [("g", 1)], book),
                ("lost", (("g", 1), ("h", 0)), book), ("lost", (("h", 1),), book), ("lost", None, book),
                ("lost", (("g", 1),), {**book, first: ((("h", 1),), (4,))}),
                ("lost", (("g", 1),), {**book, first: ((("h", 1),), (5,))}),
                ("lost", (("g", 1),), {**book, first: ((("h", False),), (4,))}),
                ("lost", (("g", 1),), {**book, first: ((), (4,))}),
                ("lost", (("g", 1),), {**book, first: ((("g", 0),), (4,))}),
                ("lost", (("g", 1),), {**book, first: ((("h", 0),), ())}),
                ("lost", (("g", 1),), {**book, first: ((("h", 0),), (4, 5))}),
                ("lost", (("g", 1),), {**book, first: ((("h", 0),), (6,))}),
                ("lost", (("g", 1),), {**book, first: ((("h", 0),), [4])}),
                ("lost", (("g", 1),), {**book, first: ((("h", 0),),)}),
                ("lost", (("g", 1),), {**book, first: ((("h", 0),), (4,), None)}),
                ("lost", (("g", 1),), {**book, first: [(("h", 0),), (4,)]}),
                ("lost", (("g", 1),), {**book, first: None}), ("lost", (("g", 1),), {**book, first: (None, None)}),
                ("lost", (("g", 1),), {(): ((("h", 0),), ()), first: page}),
                ("lost", (("g", 1),), {((4, 6), (4, 6)): page, first: page}),
                ("lost", (("g", 1),), {((6, 4),): ((("h", 1),), (6,)), first: page}),
                ("lost", (("g", 1),), {0: page, 1: page}), ("lost", (("g", 1),), {None: page, first: page}),
                ("lost", (("g", 1),), [first, ((4, 6),)]), ("lost", (("g", 1),), None), ("lost", (("g", 1),)),
                ("lost",), ["lost", (("g", 1),), book], ("sure", (("g", 1),), book), ("lost", (("g", 1),), book, None),
                ("Lost", (("g", 1),), book), (None, (("g", 1),), book)):
            self.judge(False, self.LOST, thing)
        # The other choices, and other outcomes, are right where the aim is missed.
        self.judge(True, self.LOST, ("lost", (("g", 0),), book))
        self.judge(True, self.LOST, ("lost", (("g", 1),), {**book, first: ((("h", 0),), (5,))}))
        self.judge(True, self.LOST, ("lost", (("g", 0),), {**book, first: ((("h", 1),), (5,))}))

    def test_flags_in_the_place_of_numbers(self):
        book = {((0, 2),): ((), (0,)), ((1, 2),): ((), (1,))}
        self.assertIs(is_mixed(H, F, {"g": "strange"}, ("lost", (), book)), True)
        for less, more in ((((0, 2),), ((False, 2),)), (((1, 2),), ((True, 2),))):
            bent = {pairing: page for pairing, page in book.items() if pairing != less}
            self.assertIs(is_mixed(H, F, {"g": "strange"}, ("lost", (), {**bent, more: book[less]})), False)
        aim = ("some", (0, 2))
        self.assertIs(is_mixed(H, aim, {"g": "strange"}, ("sure", {(): ((0, 2),)})), True)
        self.assertIs(is_mixed(H, aim, {"g": "strange"}, ("sure", {(): ((False, 2),)})), False)
        self.assertIs(is_mixed(H, aim, {"g": "strange"}, ("sure", {(): ((1, 2),)})), False)

    def test_odd(self):
        self.judges_odd(lambda thing: is_mixed(H, F, {"g": "met"}, thing))
        self.judges_odd(lambda thing: is_mixed(H, F, {"g": "met"}, ("sure", thing)))
        self.judges_odd(lambda thing: is_mixed(H, F, {"g": "met"}, ("sure", {(): thing})), [()])
        self.judges_odd(lambda thing: is_mixed(H, F, {"g": "strange"}, ("lost", thing, {
            ((0, 2),): ((), (0,)), ((1, 2),): ((), (1,))})), [()])
        self.judges_odd(lambda thing: is_mixed(H, F, {"g": "strange"}, ("lost", (), thing)))
        self.judges_odd(lambda thing: is_mixed(H, F, {"g": "strange"}, ("lost", (), {
            ((0, 2),): ((), thing), ((1, 2),): ((), (1,))})), [(0,)])
        self.judges_odd(lambda thing: is_mixed(H, F, {"g": "strange"}, ("lost", (), {
            ((0, 2),): (thing, (0,)), ((1, 2),): ((), (1,))})), [()])

    def test_bent_papers_by_chance(self):
        chance = random.Random(113)
        told = {True: 0, False: 0}
        for _ in range(150):
            hall = chance_hall(chance, 7, "ghi", ((),))
            aim = chance_aim(chance, len(hall.boards))
            sorts = {name: chance.choice(KINDS) for name in hall.names}
            paper = mixed(hall, aim, sorts)
            bent = copy.deepcopy(paper)
            key = chance.choice(list(bent[-1]))
            if paper[0] == "sure":
                bent[1][key] = chance.choice(all_pairings(strange_couples(hall, sorts)))
            else:
                met = chance.choice(choices(of_sort(hall, sorts, "met")))
                bent[2][key] = (met, chance.choice(outcomes(key)))
            flag = is_paper(hall, aim, sorts, bent)
            self.assertIs(is_mixed(hall, aim, sorts, bent), flag)
            told[flag] += 1
            less = {other: page for other, page in paper[-1].items() if other != key}
            self.assertIs(is_mixed(hall, aim, sorts, paper[:-1] + (less,)), False)
        self.assertGreater(min(told.values()), 10)


class LeastTold(Case):
    def test_names(self):
        self.tells([("g",)], least_told(H, F))
        self.tells([()], least_told(H, ("some", (0, 2))))
        self.tells([()], least_told(H, ALWAYS))
        self.tells([], least_told(H, NEVER))
        self.tells([], least_told(H, ("all", (0, 1))))
        hall = Hall(H.boards + tuple(("h", side, ()) for _, side, _ in H.boards))
        other = ("some", (("all", (3, 4)), 5))
        self.tells([("g",)], least_told(hall, F))
        self.tells([("h",)], least_told(hall, other))
        self.tells([("g",), ("h",)], least_told(hall, ("some", (F, other))))
        self.tells([("g", "h")], least_told(hall, ("all", (F, other))))
        self.assertIsNot(least_told(H, F), least_told(H, F))

    def test_names_at_one_side_alone_need_not_be_told(self):
        hall = Hall(H.boards + (("b", 0, ()), ("i", 1, ())))
        self.tells([("g",)], least_told(hall, F))
        self.tells([], least_told(hall, ("some", (3, 4))))

    def test_by_chance(self):
        chance = random.Random(114)
        told = {}
        for _ in range(150):
            hall = chance_hall(chance, 8, "ghi", ((),))
            aim = chance_aim(chance, len(hall.boards))
            right = []
            for many in range(len(hall.names) + 1):
                for names in itertools.combinations(hall.names, many):
                    sorts = {name: "told" if name in names else "strange" for name in hall.names}
                    if any(set(less) <= set(names) for less in right):
                        continue
                    if lost_choices(hall, aim, sorts) == []:
                        right.append(names)
            found = least_told(hall, aim)
            self.tells(sorted(right), found)
            told[len(found)] = told.get(len(found), 0) + 1
            for names in found:
                sorts = {name: "told" if name in names else "strange" for name in hall.names}
                self.assertEqual(mixed(hall, aim, sorts)[0], "sure")
        self.assertGreater(min(told[0], told[1]), 10)

    def test_many_names(self):
        hall = names_hall("abcdefgh")
        self.tells([()], least_told(hall, ("least", 8, tuple(range(16)))))
        self.tells([], least_told(hall, ("least", 9, tuple(range(16)))))
        twice = joined(hall, Hall(tuple((name, 1, ()) for name in "abcdefgh")))
        parts = tuple(("some", (2 * at, ("all", (2 * at + 1, 16 + at)))) for at in range(8))
        self.tells([tuple("abcdefgh")], least_told(twice, ("all", parts)))
        self.tells([(name,) for name in "abcdefgh"], least_told(twice, ("some", parts)))
        self.tells(list(itertools.combinations("abcdefgh", 3)), least_told(twice, ("least", 3, parts)))

    def test_errors(self):
        nine = names_hall("abcdefghi")
        self.raises("NotFresh", {}, least_told, BEGUN, None)
        self.refuses_odd("NoAim", lambda thing: least_told(H, thing), (0, 1, 2))
        self.raises("NoAim", {}, least_told, nine, 18)
        self.raises("TooMany", {"most": 8}, least_told, nine, ALWAYS)
        self.raises("TooMany", {"most": 8}, least_told, joined(nine, fresh_hall(12, 0, "z")), ALWAYS)
        self.raises("TooMany", {"most": 24}, least_told, joined(CROWD, fresh_hall(1, 0)), ALWAYS)
        self.raises("TooMany", {"most": 2000}, least_told, CROWD, ALWAYS)
        self.raises("TooMany", {"most": 2000}, least_told, CROWD, NEVER)
        # 2000 pairings are not too many.
        self.tells([()], least_told(many_pairings(2000), ALWAYS))


if __name__ == "__main__":
    unittest.main()
