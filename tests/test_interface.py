"""The interface: each name is there, with as many arguments as the document tells."""

import importlib
import inspect
import unittest

FUNCTIONS = {
    "values": {"is_value": 1, "is_of": 2, "rank": 1, "row_rank": 1},
    "frames": {"frame_of": 2, "table_named": 2},
    "books": {"first_break": 2, "counts_of": 1},
    "sums": {"worth": 2, "names_in": 1, "put_in": 2},
    "conds": {"conjuncts": 1, "alike": 2, "joined": 1, "rejects": 2, "follows": 2},
    "scopes": {"columns_in": 2, "cond_put_in": 3},
    "asks": {"columns": 2, "children": 1, "part_at": 2, "with_part": 3},
    "plain": {"holds": 4, "answer": 3, "told": 3, "in_order": 3},
    "facts": {"keys_of": 2, "met_once": 4, "source": 3, "along": 4},
    "bounds": {"bounds": 3},
    "turns_picks": {"turn_picks": 4},
    "turns_joins": {"turn_joins": 4},
    "turns_halves": {"turn_halves": 4},
    "turns_leaves": {"turn_leaves": 4},
    "turns_groups": {"turn_groups": 4},
    "turns_shows": {"turn_shows": 4},
    "papers": {"turned": 3, "gone": 3},
    "orders": {"orders_of": 2, "order_named": 2, "kept_beside": 3, "changed": 7},
    "plans": {"ask_of": 3, "order_of": 3},
    "runner": {"run": 4, "work_of": 4},
    "costs": {"cost": 4},
    "makes": {"makes": 3},
    "planner": {"asks_from": 3, "told_plans": 5, "chosen": 5},
    "changes": {"shelf_of": 2, "book_of": 1, "done": 3},
    "log": {"shelf_up": 2, "next_hand": 1},
    "hands": {"come_up": 2},
    "texts": {"show_ask": 1, "show_cond": 1, "show_sum": 1, "show_change": 1, "read_ask": 1, "read_cond": 1, "read_sum": 1, "read_change": 1},
    "frametexts": {"show_frame": 1, "read_frame": 1},
}
CLASSES = {
    ("trees", "Tree"): {"__init__": 1, "put": 2, "take": 2, "pairs": 0, "between": 2, "shape": 0, "many": 0},
    ("runner", "Run"): {"__init__": 4, "next_row": 0, "work": 0},
    ("hands", "Store"): {"__init__": 2, "begin": 1, "ask": 2, "change": 2, "keep": 1, "drop": 1, "kept": 0, "shelf": 0, "book": 0, "write_out": 2,
                         "writes": 0},
    ("desk", "Desk"): {"__init__": 1, "say": 1},
}


def of_package(name):
    return importlib.import_module("everyplan." + name)


def arguments(call):
    return [one for one in inspect.signature(call).parameters.values() if one.kind is one.POSITIONAL_OR_KEYWORD and one.default is one.empty]


class Interface(unittest.TestCase):
    def test_functions(self):
        for module, calls in FUNCTIONS.items():
            for name, many in calls.items():
                self.assertEqual(len(arguments(getattr(of_package(module), name))), many, (module, name))

    def test_classes(self):
        for (module, name), calls in CLASSES.items():
            for method, many in calls.items():
                found = getattr(getattr(of_package(module), name), method)
                self.assertEqual(len(arguments(found)), many + 1, (module, name, method))

    def test_modules_without_names_of_their_own(self):
        for module in ("cursors", "joiners", "groupers", "nodes", "errors"):
            of_package(module)
        self.assertIs(type(of_package("papers").RULES), tuple)


if __name__ == "__main__":
    unittest.main()
