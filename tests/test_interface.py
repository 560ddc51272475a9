"""The interface: each name stands where the document lists it, with the arguments that it lists."""

import ast
import pathlib
import unittest

PACKAGE = pathlib.Path(__file__).resolve().parent.parent / "untoldgames"

FUNCTIONS = {
    "games": {
        "mover": "row", "is_game": "thing", "let_words": "game row", "game_of": "rows", "behind": "game row",
        "both_games": "one other"},
    "solving": {
        "winner": "game row", "moves_left": "game row", "good_words": "game row", "plan": "game side",
        "plan_fault": "game side thing"},
    "halls": {
        "is_fresh": "thing", "are_games": "hall thing", "turned": "hall", "joined": "one other", "only": "hall lot",
        "least_games": "hall"},
    "aims": {
        "is_aim": "hall thing", "reached": "hall aim won", "same_aims": "hall aim other", "dual": "hall aim",
        "moved": "aim by", "least_won": "hall aim"},
    "pairs": {"pairs": "hall", "pairings": "hall", "is_pairing": "hall thing"},
    "verdicts": {
        "sure": "hall aim", "spoilers": "hall aim", "is_sure": "hall aim thing", "are_spoilers": "hall aim thing"},
    "logs": {"log_rows": "hall log", "log_fault": "hall games thing", "heard_games": "hall log"},
    "playing": {"led": "hall games guest masters", "copied": "hall pairing rows"},
    "foes": {"led_by_foe": "hall aim guest"},
    "meeting": {
        "two_sided": "hall", "met_spoiler": "hall aim", "is_met_spoiler": "hall aim thing", "evened": "hall rows",
        "met_games": "hall choice"},
    "sorts": {"mixed": "hall aim sorts", "is_mixed": "hall aim sorts thing", "least_told": "hall aim"},
    "points": {
        "most_points": "hall points", "met_points": "hall points", "stock_points": "stocks", "stock_met": "stocks"},
    "following": {
        "following": "one aim other goal", "alike": "one aim other goal", "is_following": "one aim other goal thing",
        "chained": "one other third first second"},
    "house": {"enough": "hall aim", "bars": "hall aim", "turns": "hall aim", "cheapest": "hall aim prices"},
    "strength": {
        "strongest": "hall", "handicaps": "hall aim", "strongest_met": "hall", "gives": "hall aim other",
        "is_handicap": "hall aim thing", "cheapest_handicap": "hall aim prices"},
    "knowing": {
        "told_won": "hall games", "told_move": "hall games rows", "told_answer": "hall games board row"},
    "news": {"news": "hall log name row word", "certain": "hall log"},
    "relays": {
        "is_relay": "hall thing", "is_sure_relayed": "hall aim relay thing", "hand_time": "hall relay one other",
        "hand_way": "hall relay one other", "sure_relayed": "hall aim relay", "standing": "hall relay",
        "least_lines": "hall aim relay", "slow_boards": "hall aim relay", "delay": "hall aim relay"},
    "texts": {"hall_text": "hall", "games_text": "games", "log_text": "log", "aim_text": "aim"},
    "reading": {"read_hall": "text", "read_games": "text", "read_log": "text", "read_aim": "text"},
}

CLASSES = {
    "halls": {"Hall": {"__init__": "self boards", "__eq__": "self other"}},
    "sittings": {
        "Sitting": {
            "__init__": "self hall games", "rows": "self", "turns": "self", "say": "self board word",
            "answer": "self board word", "refused": "self", "won": "self", "log": "self", "back": "self",
            "depth": "self", "copy": "self", "trying": "self action"}},
    "foes": {
        "Foe": {
            "__init__": "self hall aim", "rows": "self", "turns": "self", "refused": "self", "log": "self",
            "won": "self", "say": "self board word", "wait": "self", "closed": "self", "games": "self",
            "back": "self"}},
    "rooms": {
        "Room": {
            "__init__": "self", "put": "self name side", "shut": "self board", "exchange": "self board",
            "play": "self board word", "numbers": "self", "hall": "self", "pairs": "self", "sure": "self aim",
            "back": "self", "depth": "self", "copy": "self", "trying": "self action"}},
    "desk": {"Desk": {"__init__": "self", "tell": "self line", "undoable": "self"}},
}


def arguments(function):
    """The names of the arguments of a function, that all are plain ones without default values."""
    rest = function.args
    plain = not (rest.vararg or rest.kwarg or rest.kwonlyargs or rest.defaults or rest.posonlyargs)
    return " ".join(one.arg for one in rest.args) if plain else None


def defined(module, kind):
    """What a module defines by def, or by class, by name."""
    tree = ast.parse((PACKAGE / f"{module}.py").read_text())
    return {node.name: node for node in tree.body if isinstance(node, kind)}


class Interface(unittest.TestCase):
    def test_functions(self):
        for module, functions in FUNCTIONS.items():
            found = defined(module, ast.FunctionDef)
            for name, told in functions.items():
                self.assertEqual(arguments(found[name]), told, (module, name))

    def test_classes(self):
        for module, classes in CLASSES.items():
            found = defined(module, ast.ClassDef)
            for name, methods in classes.items():
                own = {node.name: node for node in found[name].body if isinstance(node, ast.FunctionDef)}
                for method, told in methods.items():
                    self.assertEqual(arguments(own[method]), told, (module, name, method))


if __name__ == "__main__":
    unittest.main()
