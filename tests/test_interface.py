"""[2] and the interface: what is defined where, with which arguments, and what is returned."""

import copy
import importlib
import inspect
import unittest

from tests.samples import THREE, TWO, WAY

FUNCTIONS = {
    "dyeings": {
        "dyeing_breach": ["value"],
        "check_dyeing": ["value"],
        "dyed": ["table"],
        "dye_count": ["dyeing"],
        "pairs_of": ["dyeing", "dye"],
    },
    "numberings": {
        "turned": ["dyeing"],
        "numbered": ["dyeing", "listing"],
        "least_form": ["dyeing"],
        "are_alike": ["one", "other"],
    },
    "texts": {"written": ["dyeing"], "read_dyeing": ["text"]},
    "orders": {"is_within": ["one", "other"], "met": ["one", "other"], "joined": ["one", "other"]},
    "closings": {
        "closed_breach": ["dyeing"],
        "is_closed": ["dyeing"],
        "begun": ["dyeing"],
        "next_round": ["dyeing"],
        "closing": ["dyeing"],
        "round_row": ["dyeing"],
    },
    "marks": {"marked": ["dyeing", "places"], "place_parts": ["dyeing"], "least_base": ["dyeing"]},
    "steps": {
        "steps_breach": ["dyeing", "value"],
        "told_tables": ["dyeing", "steps"],
        "is_telling": ["dyeing", "steps", "pair", "other"],
    },
    "tellings": {"telling_steps": ["dyeing", "pair", "other"]},
    "moves": {
        "is_move": ["dyeing", "value"],
        "moves_of": ["dyeing"],
        "move_count": ["dyeing"],
        "carrying_move": ["dyeing", "pair", "other"],
    },
    "groups": {"move_dyeing": ["dyeing"], "group_dyeing": ["n", "listings"]},
    "leads": {"leads": ["one", "other"]},
    "sheets": {
        "sheet_of": ["dyeing"],
        "sheet_breach": ["value"],
        "degree": ["sheet", "dye"],
        "sizes": ["sheet"],
    },
    "sheetleads": {"dye_leads": ["one", "other"]},
    "joinings": {
        "joined_dyes": ["dyeing", "joining"],
        "joining_of": ["dyeing", "other"],
        "closed_joinings": ["dyeing"],
        "led_joining": ["dyeing", "listings"],
    },
    "rooms": {
        "is_even": ["dyeing"],
        "room_set_of": ["dyeing", "dyes"],
        "room_sets": ["dyeing"],
        "rooms": ["dyeing", "room_set"],
        "in_room": ["dyeing", "room_set", "k"],
        "between_rooms": ["dyeing", "room_set"],
        "is_whole": ["dyeing"],
        "lot_dyeing": ["dyeing", "k"],
    },
    "products": {
        "side_by_side": ["one", "other"],
        "woven": ["one", "other"],
        "nested": ["one", "other"],
        "power": ["dyeing", "k"],
        "taken_apart": ["dyeing"],
    },
}

# A dyeing of four places around a ring by their distance, and the sheet of TWO.
SQUARE = ((0, 1, 2, 1), (1, 0, 1, 2), (2, 1, 0, 1), (1, 2, 1, 0))
SHEET = ((0,), (0, 1), (((1, 0), (0, 1)), ((0, 1), (1, 0))))
STEPS = (("dye", 1), ("middle",), ("turned", 0), ("times", 0, 1), ("then", 0, 2), ("just", 4, 2))

# For each call: the module, the name, the arguments by name, and what is returned.
CALLS = [
    ("dyeings", "dyeing_breach", {"value": TWO}, None),
    ("dyeings", "dyeing_breach", {"value": [TWO]}, ("form", -1)),
    ("dyeings", "check_dyeing", {"value": TWO}, TWO),
    ("dyeings", "dyed", {"table": ((7, 3), (3, 7))}, TWO),
    ("dyeings", "dye_count", {"dyeing": WAY}, 3),
    ("dyeings", "pairs_of", {"dyeing": TWO, "dye": 1}, ((0, 1), (1, 0))),
    ("numberings", "turned", {"dyeing": ((0, 1), (2, 3))}, ((0, 1), (2, 3))),
    ("numberings", "numbered", {"dyeing": WAY, "listing": (1, 0, 2)}, ((0, 1, 1), (1, 0, 2), (1, 2, 0))),
    ("numberings", "least_form", {"dyeing": WAY}, ((0, 1, 1), (1, 0, 2), (1, 2, 0))),
    ("numberings", "are_alike", {"one": WAY, "other": THREE}, False),
    ("texts", "written", {"dyeing": TWO}, "0 1/1 0"),
    ("texts", "read_dyeing", {"text": "7 3/3 7"}, TWO),
    ("orders", "is_within", {"one": WAY, "other": THREE}, True),
    ("orders", "met", {"one": WAY, "other": THREE}, WAY),
    ("orders", "joined", {"one": WAY, "other": THREE}, THREE),
    ("closings", "closed_breach", {"dyeing": WAY}, ("count", 1, 1, 0)),
    ("closings", "is_closed", {"dyeing": THREE}, True),
    ("closings", "begun", {"dyeing": ((0, 0), (0, 0))}, TWO),
    ("closings", "next_round", {"dyeing": TWO}, TWO),
    ("closings", "closing", {"dyeing": WAY}, ((0, 1, 2), (3, 4, 3), (2, 1, 0))),
    ("closings", "round_row", {"dyeing": WAY}, (3, 5)),
    ("marks", "marked", {"dyeing": TWO, "places": (1,)}, ((0, 1), (1, 2))),
    ("marks", "place_parts", {"dyeing": WAY}, ((0, 2), (1,))),
    ("marks", "least_base", {"dyeing": WAY}, (0,)),
    ("steps", "steps_breach", {"dyeing": TWO, "value": STEPS}, None),
    ("steps", "told_tables", {"dyeing": TWO, "steps": (("dye", 1),)}, (((0, 1), (1, 0)),)),
    ("steps", "is_telling", {"dyeing": TWO, "steps": (("dye", 1),), "pair": (0, 0), "other": (0, 1)}, True),
    ("tellings", "telling_steps", {"dyeing": TWO, "pair": (0, 1), "other": (1, 0)}, None),
    ("moves", "is_move", {"dyeing": WAY, "value": (2, 1, 0)}, True),
    ("moves", "moves_of", {"dyeing": WAY}, ((0, 1, 2), (2, 1, 0))),
    ("moves", "move_count", {"dyeing": THREE}, 6),
    ("moves", "carrying_move", {"dyeing": WAY, "pair": (0, 1), "other": (2, 1)}, (2, 1, 0)),
    ("moves", "carrying_move", {"dyeing": WAY, "pair": (0, 1), "other": (1, 2)}, None),
    ("groups", "move_dyeing", {"dyeing": WAY}, ((0, 1, 2), (3, 4, 3), (2, 1, 0))),
    ("groups", "group_dyeing", {"n": 3, "listings": ((1, 2, 0),)}, ((0, 1, 2), (2, 0, 1), (1, 2, 0))),
    ("leads", "leads", {"one": ((0, 0), (0, 1)), "other": ((0, 1), (1, 1))}, ((1, 0),)),
    ("sheets", "sheet_of", {"dyeing": TWO}, SHEET),
    ("sheets", "sheet_breach", {"value": SHEET}, None),
    ("sheets", "sheet_breach", {"value": [SHEET]}, "form"),
    ("sheets", "degree", {"sheet": SHEET, "dye": 1}, 1),
    ("sheets", "sizes", {"sheet": SHEET}, (2,)),
    ("sheetleads", "dye_leads", {"one": SHEET, "other": SHEET}, ((0, 1),)),
    ("joinings", "joined_dyes", {"dyeing": WAY, "joining": ((0,), (1, 2))}, THREE),
    ("joinings", "joining_of", {"dyeing": WAY, "other": THREE}, ((0,), (1, 2))),
    ("joinings", "closed_joinings", {"dyeing": SQUARE}, (((0,), (1,), (2,)), ((0,), (1, 2)))),
    ("joinings", "led_joining", {"dyeing": THREE, "listings": ((0, 1),)}, ((0,), (1,))),
    ("rooms", "is_even", {"dyeing": THREE}, True),
    ("rooms", "room_set_of", {"dyeing": SQUARE, "dyes": (2,)}, (0, 2)),
    ("rooms", "room_sets", {"dyeing": SQUARE}, ((0,), (0, 1, 2), (0, 2))),
    ("rooms", "rooms", {"dyeing": SQUARE, "room_set": (0, 2)}, ((0, 2), (1, 3))),
    ("rooms", "in_room", {"dyeing": SQUARE, "room_set": (0, 2), "k": 1}, TWO),
    ("rooms", "between_rooms", {"dyeing": SQUARE, "room_set": (0, 2)}, TWO),
    ("rooms", "is_whole", {"dyeing": THREE}, True),
    ("rooms", "lot_dyeing", {"dyeing": ((0, 1, 1), (2, 3, 4), (2, 4, 3)), "k": 1}, TWO),
    ("products", "side_by_side", {"one": ((0,),), "other": TWO}, ((0, 1, 1), (2, 3, 4), (2, 4, 3))),
    ("products", "woven", {"one": ((0,),), "other": WAY}, WAY),
    ("products", "nested", {"one": TWO, "other": ((0,),)}, TWO),
    ("products", "power", {"dyeing": TWO, "k": 2}, ((0, 1, 1, 2), (1, 0, 2, 1), (1, 2, 0, 1), (2, 1, 1, 0))),
    ("products", "taken_apart", {"dyeing": SQUARE}, ()),
]


def is_plain_value(value):
    """Whether a value is an integer, a string, True, False, None or a tuple of such."""
    if type(value) is tuple:
        return all(is_plain_value(part) for part in value)
    return value is None or type(value) in (int, str, bool)


class InterfaceTest(unittest.TestCase):
    def test_functions_are_defined_in_their_files_with_their_arguments(self):
        for file, functions in FUNCTIONS.items():
            module = importlib.import_module(f"pairdyes.{file}")
            for name, arguments in functions.items():
                with self.subTest(file=file, name=name):
                    function = getattr(module, name)
                    self.assertTrue(inspect.isfunction(function))
                    self.assertEqual(function.__module__, f"pairdyes.{file}")
                    self.assertEqual(list(inspect.signature(function).parameters), arguments)

    def test_each_function_is_called_below(self):
        called = {(file, name) for file, name, _, _ in CALLS}
        listed = {(file, name) for file, functions in FUNCTIONS.items() for name in functions}
        self.assertEqual(called, listed)

    def test_arguments_by_name_and_by_place_give_the_same(self):
        for file, name, arguments, expected in CALLS:
            with self.subTest(file=file, name=name):
                function = getattr(importlib.import_module(f"pairdyes.{file}"), name)
                by_name = function(**arguments)
                by_place = function(*arguments.values())
                self.assertEqual(by_name, expected)
                self.assertEqual(by_place, expected)
                self.assertIs(type(by_name), type(expected))

    def test_what_is_returned_is_plain(self):
        for file, name, arguments, _ in CALLS:
            with self.subTest(file=file, name=name):
                function = getattr(importlib.import_module(f"pairdyes.{file}"), name)
                self.assertTrue(is_plain_value(function(**arguments)))

    def test_arguments_are_unchanged_behind_a_call(self):
        for file, name, arguments, _ in CALLS:
            with self.subTest(file=file, name=name):
                function = getattr(importlib.import_module(f"pairdyes.{file}"), name)
                passed = copy.deepcopy(arguments)
                function(**passed)
                self.assertEqual(passed, arguments)

    def test_lists_that_are_passed_as_any_value_are_unchanged(self):
        from pairdyes.dyeings import dyeing_breach
        from pairdyes.steps import is_telling, steps_breach
        value = [[0, 1], [1, 0]]
        dyeing_breach(value)
        self.assertEqual(value, [[0, 1], [1, 0]])
        steps = (["dye", 1],)
        steps_breach(TWO, steps)
        is_telling(TWO, steps, (0, 0), (0, 1))
        self.assertEqual(steps, (["dye", 1],))

    def test_lists_within_any_value_are_unchanged(self):
        from pairdyes.errors import NotJoining, NotLeads
        from pairdyes.joinings import joined_dyes, led_joining
        from pairdyes.moves import is_move
        from pairdyes.sheets import sheet_breach
        value = [[0, 1], [2]]
        is_move(WAY, value)
        is_move(WAY, (value,))
        sheet_breach((value, value, value))
        for wrong in (value, (value,), tuple(value)):
            self.assertRaises(NotJoining, joined_dyes, WAY, wrong)
            self.assertRaises(NotLeads, led_joining, THREE, wrong)
        self.assertEqual(value, [[0, 1], [2]])


if __name__ == "__main__":
    unittest.main()
