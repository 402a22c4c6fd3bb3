"""The interface: each name stands in its module, is defined there, and has the arguments that are told."""

import importlib
import inspect
import unittest

from tests.helpers import PATH

MODULES = {
    "holdsfast.errors": {
        "ParseError": "line", "UnknownPlace": "place", "InvalidNumber": "value", "TooMany": "limit",
        "NothingToUndo": "many", "Refused": "reason",
    },
    "holdsfast.base.words": {
        "is_place": "value", "is_fraction": "value", "fraction": "numerator, denominator", "is_lower": "one, other",
        "greatest": "*fractions",
    },
    "holdsfast.base.nets": {"Net": "places, ties=None"},
    "holdsfast.base.lots": {
        "is_lot": "net, value", "is_parting": "net, value", "lots": "net", "cut": "net, lot", "inside": "net, lot",
        "cut_table": "net", "rest": "net, lot", "do_cross": "net, one, other", "partings": "net",
        "across": "net, parting", "parted_by": "net, forest", "is_finer": "net, parting, other",
        "met": "net, parting, other", "merged": "net, parting, other",
    },
    "holdsfast.ways.numbers": {
        "number": "net, one, other", "numbers": "net", "family": "net, one, other",
        "is_family": "net, one, other, value", "least_lot": "net, one, other", "number_paper": "net, one, other",
        "is_number_paper": "net, one, other, value",
    },
    "holdsfast.ways.trees": {
        "cut_tree": "net", "is_cut_tree": "net, value", "tree_number": "net, tree, one, other",
        "tree_lot": "net, tree, index",
    },
    "holdsfast.least.cuts": {
        "least_cut": "net", "least_lots": "net", "is_least": "net, lot", "leaves": "net", "crossing": "net",
        "least_paper": "net", "is_least_paper": "net, value",
    },
    "holdsfast.least.webs": {
        "ring_web": "net", "is_ring_web": "net, value", "is_web": "net, value", "web_lots": "net, web",
        "web_leaves": "net, web", "node_of": "net, web, place",
    },
    "holdsfast.odd.joins": {
        "join_number": "net, chosen", "least_join": "net, chosen", "is_join": "net, chosen, value",
        "is_odd_row": "net, chosen, value", "join_paper": "net, chosen", "is_join_paper": "net, chosen, value",
        "both_joins": "net, chosen, join, second",
    },
    "holdsfast.odd.cuts": {
        "odd_cut": "net, chosen", "odd_lots": "net, chosen", "odd_paper": "net, chosen",
        "is_odd_paper": "net, chosen, value", "tour_length": "net", "shortest_tour": "net", "is_tour": "net, value",
        "tour_paper": "net", "is_tour_paper": "net, value",
    },
    "holdsfast.trees.packed": {
        "is_forest": "net, value", "is_tree": "net, value", "do_share": "net, forests", "most_trees": "net",
        "trees_paper": "net, many", "is_trees_paper": "net, many, value", "most_forest_ties": "net, many",
        "forests_paper": "net, many", "is_forests_paper": "net, many, value",
    },
    "holdsfast.trees.covers": {
        "fewest_forests": "net", "cover_paper": "net, many", "is_cover_paper": "net, many, value",
        "is_cover": "net, value", "crowds_for": "net, many",
    },
    "holdsfast.trees.turned": {
        "is_streets": "net, value", "coming_in": "net, streets", "entering": "net, streets, lot",
        "told_paper": "net, told, *, just=False", "is_told_paper": "net, told, value, *, just=False",
        "least_in": "net", "reversed_way": "net, streets, one, other",
    },
    "holdsfast.part.strength": {
        "strength": "net", "weakest": "net", "strength_paper": "net", "is_strength_paper": "net, value",
        "finest_at": "net, level", "coarsest_at": "net, level", "critical_levels": "net", "chain": "net",
    },
    "holdsfast.part.crowds": {
        "crowding": "net", "crowded_lots": "net", "greatest_crowds": "net", "crowding_paper": "net",
        "is_crowding_paper": "net, value", "layers": "net",
    },
    "holdsfast.ways.streets": {
        "one_way_number": "net, streets, one, other", "one_way_paper": "net, streets, one, other",
        "is_one_way_paper": "net, streets, one, other, value", "least_entering": "net, streets", "most_folds": "net",
        "folds_paper": "net, many", "is_folds_paper": "net, many, value", "even_streets": "net",
        "turned_about": "net, streets",
    },
    "holdsfast.ways.rooted": {
        "is_rooted_tree": "net, streets, root, value", "most_rooted": "net, streets, root",
        "rooted_paper": "net, streets, roots", "is_rooted_paper": "net, streets, roots, value",
        "depths": "net, streets, root, tree",
    },
    "holdsfast.past.pairs": {
        "pairs_at": "net, place", "keeping_pairs": "net, place", "led_past": "net, place, pair",
        "past_paper": "net, place, pair", "is_past_paper": "net, place, pair, value", "whole_row": "net, place",
        "is_whole_row": "net, place, value", "pinched": "net, place, pairs",
    },
    "holdsfast.past.carried": {
        "carried_numbers": "net, place", "is_carried": "net, place, value", "carried_net": "net, place, row",
        "carried_tree": "net, place", "is_carried_tree": "net, place, value", "taken_back": "net, place, row, streets",
        "is_taken_back": "net, place, row, streets, value",
    },
    "holdsfast.more.cuts": {
        "fewest_raising": "net", "raising": "net", "is_raising": "net, value", "raising_paper": "net",
        "is_raising_paper": "net, value", "with_ties": "net, ties",
    },
    "holdsfast.more.trees": {
        "lack": "net, many", "worst_partings": "net, many", "coarsest_worst": "net, many", "needed_pairs": "net, many",
        "filling": "net, many", "is_filling": "net, many, value", "filling_paper": "net, many",
        "is_filling_paper": "net, many, value",
    },
    "holdsfast.play.game": {
        "is_position": "net, value", "free": "net, position", "winner": "net, position, turn",
        "game_paper": "net, position, turn", "is_game_paper": "net, position, turn, value",
        "best_move": "net, position, turn", "is_best_move": "net, position, turn, value", "Play": "net",
    },
    "holdsfast.use.live": {"facts": "net", "is_claim": "value", "does_hold": "net, claim", "Live": "net"},
    "holdsfast.text.texts": {
        "is_kind": "value", "write": "kind, value", "read": "kind, text", "is_text": "kind, value",
    },
    "holdsfast.text.shell": {"Shell": ""},
}
CONSTANTS = (
    ("holdsfast.base.words", "MAX_LETTERS", 8), ("holdsfast.base.nets", "MAX_PLACES", 7),
    ("holdsfast.base.nets", "MAX_TIES", 30), ("holdsfast.base.nets", "MAX_MADE", 60),
    ("holdsfast.trees.packed", "MAX_TREES", 60), ("holdsfast.trees.turned", "MAX_TOLD", 60),
    ("holdsfast.ways.rooted", "MAX_ROOTS", 30),
    ("holdsfast.use.live", "WORDS", ("crowding", "forests", "least", "strength", "trees")),
    ("holdsfast.text.texts", "KINDS", ("claim", "forest", "join", "lot", "net", "parting", "streets", "tree")),
)
PLAIN_ERRORS = ("NetError", "InvalidNet", "InvalidLot", "InvalidParting", "InvalidOperation")
# For each class its methods with their arguments, its properties, and its methods with double underscores.
CLASSES = {
    "holdsfast.base.nets.Net": (
        {"full": "places, *, many=1", "ring": "places, *, many=1", "tied": "one, other", "near": "place",
         "joined": "one, other, many=1", "untied": "one, other, many=1", "with_place": "place", "without_place": "place",
         "within": "lot", "shrunk": "lot, place", "renamed": "names", "times": "many", "plus": "other"},
        "places ties size pairs degrees odd pieces is_joined", "len contains iter eq str"),
    "holdsfast.play.game.Play": (
        {"move": "one, other", "reply": "", "undo": "*, many=1", "branch": ""},
        "net position turn moves winner", "len iter eq str"),
    "holdsfast.use.live.Live": (
        {"tie": "one, other, many=1", "untie": "one, other, many=1", "add": "place", "remove": "place",
         "shrink": "lot, place", "rename": "names", "pin": "claim", "unpin": "claim", "undo": "*, many=1",
         "redo": "*, many=1", "attempt": "", "during": "call", "twin": ""},
        "net pins log", "getitem contains len iter eq str"),
    "holdsfast.text.shell.Shell": ({"tell": "line", "tell_all": "lines", "live": ""}, "", "len"),
}


class TestInterface(unittest.TestCase):
    def test_names_and_arguments(self):
        for module, names in MODULES.items():
            held = importlib.import_module(module)
            for name, arguments in names.items():
                found = vars(held)[name]
                self.assertEqual(found.__module__, module, name)
                self.assertEqual(str(inspect.signature(found)), f"({arguments})", name)

    def test_constants(self):
        for module, name, value in CONSTANTS:
            self.assertEqual(vars(importlib.import_module(module))[name], value)

    def test_errors(self):
        held = importlib.import_module("holdsfast.errors")
        for name in PLAIN_ERRORS:
            self.assertEqual(vars(held)[name].__module__, "holdsfast.errors")

    def test_classes(self):
        for path, (methods, properties, operators) in CLASSES.items():
            module, name = path.rsplit(".", 1)
            held = vars(importlib.import_module(module))[name]
            made = held() if name == "Shell" else held(("a", "b")) if name == "Net" else held(PATH)
            for method, arguments in methods.items():
                self.assertIn(method, vars(held))
                self.assertEqual(str(inspect.signature(getattr(made, method))), f"({arguments})", method)
            for word in properties.split():
                self.assertIsInstance(vars(held)[word], property)
            for word in operators.split():
                self.assertIn(f"__{word}__", vars(held))
        for word in ("full", "ring"):
            self.assertIsInstance(vars(type(PATH))[word], classmethod)


if __name__ == "__main__":
    unittest.main()
