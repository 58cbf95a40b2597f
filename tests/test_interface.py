"""[2] and the interface: what is defined where, with which arguments, and what is returned."""

import copy
import importlib
import inspect
import unittest

from tests import samples
from tests.samples import THREE, TWO, WAY

FUNCTIONS = {
    "dyeings": {
        "dyeing_breach": ["value"],
        "check_dyeing": ["value"],
        "dyed": ["table"],
        "dye_count": ["dyeing"],
        "pairs_of": ["dyeing", "dye"],
    },
    "numberings": {
        "turned": ["dyeing"],
        "numbered": ["dyeing", "listing"],
        "least_form": ["dyeing"],
        "are_alike": ["one", "other"],
    },
    "texts": {"written": ["dyeing"], "read_dyeing": ["text"]},
    "orders": {"is_within": ["one", "other"], "met": ["one", "other"], "joined": ["one", "other"]},
    "closings": {
        "closed_breach": ["dyeing"],
        "is_closed": ["dyeing"],
        "begun": ["dyeing"],
        "next_round": ["dyeing"],
        "closing": ["dyeing"],
        "round_row": ["dyeing"],
    },
    "marks": {"marked": ["dyeing", "places"], "place_parts": ["dyeing"], "least_base": ["dyeing"]},
    "steps": {
        "steps_breach": ["dyeing", "value"],
        "told_tables": ["dyeing", "steps"],
        "is_telling": ["dyeing", "steps", "pair", "other"],
    },
    "tellings": {"telling_steps": ["dyeing", "pair", "other"]},
    "moves": {
        "is_move": ["dyeing", "value"],
        "moves_of": ["dyeing"],
        "move_count": ["dyeing"],
        "carrying_move": ["dyeing", "pair", "other"],
    },
    "groups": {"move_dyeing": ["dyeing"], "group_dyeing": ["n", "listings"]},
    "leads": {"leads": ["one", "other"]},
    "sheets": {
        "sheet_of": ["dyeing"],
        "sheet_breach": ["value"],
        "degree": ["sheet", "dye"],
        "sizes": ["sheet"],
    },
    "sheetleads": {"dye_leads": ["one", "other"]},
    "joinings": {
        "joined_dyes": ["dyeing", "joining"],
        "joining_of": ["dyeing", "other"],
        "closed_joinings": ["dyeing"],
        "led_joining": ["dyeing", "listings"],
    },
    "rooms": {
        "is_even": ["dyeing"],
        "room_set_of": ["dyeing", "dyes"],
        "room_sets": ["dyeing"],
        "rooms": ["dyeing", "room_set"],
        "in_room": ["dyeing", "room_set", "k"],
        "between_rooms": ["dyeing", "room_set"],
        "is_whole": ["dyeing"],
        "lot_dyeing": ["dyeing", "k"],
    },
    "products": {
        "side_by_side": ["one", "other"],
        "woven": ["one", "other"],
        "nested": ["one", "other"],
        "power": ["dyeing", "k"],
        "taken_apart": ["dyeing"],
    },
    "shades": {
        "is_plain": ["dyeing"],
        "shades": ["dyeing"],
        "ranks": ["dyeing"],
        "second_table": ["dyeing"],
        "idle_table": ["dyeing", "j"],
        "second_counts": ["dyeing"],
        "shade_kinds": ["dyeing", "joining"],
    },
    "sums": {
        "row_of": ["sizes", "b"],
        "added": ["sizes", "a", "b"],
        "taken": ["sizes", "a", "b"],
        "cut_dyeing": ["sizes", "cut"],
        "is_closed_cut": ["sizes", "cut"],
        "closed_cuts": ["sizes"],
        "least_closed_cut": ["sizes", "cut"],
        "additive_listings": ["sizes"],
        "orbit_cut": ["sizes", "listings"],
    },
    "characters": {
        "wheel": ["d"],
        "character_sum": ["sizes", "numbers", "a"],
        "dual_cut": ["sizes", "cut"],
        "rational_cut": ["sizes"],
    },
    "lots": {
        "inner_row": ["dyeing", "lot"],
        "outer_row": ["dyeing", "lot"],
        "is_level": ["dyeing", "lot", "numbers"],
        "greatest_lot": ["dyeing", "dyes"],
    },
    "weighings": {
        "weighing_breach": ["dyeing", "dyes", "value"],
        "bound_of": ["dyeing", "dyes", "weighing"],
        "least_bound": ["dyeing", "dyes"],
        "best_weighing": ["dyeing", "dyes"],
        "best_inner": ["dyeing", "dyes"],
    },
    "webs": {
        "web_dyeing": ["web"],
        "distances": ["web"],
        "distance_dyeing": ["web"],
        "far_web": ["web", "d"],
        "array_of": ["web"],
        "array_breach": ["value"],
        "array_row": ["array"],
    },
    "families": {
        "ring_web": ["n"],
        "letter_web": ["k", "q"],
        "choice_web": ["n", "k"],
        "parts_web": ["numbers"],
        "line_web": ["web"],
    },
    "lists": {"closed_dyeings": ["n"]},
    "books": {"done": ["dyeing", "deed"]},
}

# A dyeing of four places around a ring by their distance, and the sheet of TWO.
SQUARE = ((0, 1, 2, 1), (1, 0, 1, 2), (2, 1, 0, 1), (1, 2, 1, 0))
SHEET = ((0,), (0, 1), (((1, 0), (0, 1)), ((0, 1), (1, 0))))
# Four places around a ring as a web.
RING = (4, ((0, 1), (0, 3), (1, 2), (2, 3)))
STEPS = (("dye", 1), ("middle",), ("turned", 0), ("times", 0, 1), ("then", 0, 2), ("just", 4, 2))

# For each call: the module, the name, the arguments by name, and what is returned.
CALLS = [
    ("dyeings", "dyeing_breach", {"value": TWO}, None),
    ("dyeings", "dyeing_breach", {"value": [TWO]}, ("form", -1)),
    ("dyeings", "check_dyeing", {"value": TWO}, TWO),
    ("dyeings", "dyed", {"table": ((7, 3), (3, 7))}, TWO),
    ("dyeings", "dye_count", {"dyeing": WAY}, 3),
    ("dyeings", "pairs_of", {"dyeing": TWO, "dye": 1}, ((0, 1), (1, 0))),
    ("numberings", "turned", {"dyeing": ((0, 1), (2, 3))}, ((0, 1), (2, 3))),
    ("numberings", "numbered", {"dyeing": WAY, "listing": (1, 0, 2)}, ((0, 1, 1), (1, 0, 2), (1, 2, 0))),
    ("numberings", "least_form", {"dyeing": WAY}, ((0, 1, 1), (1, 0, 2), (1, 2, 0))),
    ("numberings", "are_alike", {"one": WAY, "other": THREE}, False),
    ("texts", "written", {"dyeing": TWO}, "0 1/1 0"),
    ("texts", "read_dyeing", {"text": "7 3/3 7"}, TWO),
    ("orders", "is_within", {"one": WAY, "other": THREE}, True),
    ("orders", "met", {"one": WAY, "other": THREE}, WAY),
    ("orders", "joined", {"one": WAY, "other": THREE}, THREE),
    ("closings", "closed_breach", {"dyeing": WAY}, ("count", 1, 1, 0)),
    ("closings", "is_closed", {"dyeing": THREE}, True),
    ("closings", "begun", {"dyeing": ((0, 0), (0, 0))}, TWO),
    ("closings", "next_round", {"dyeing": TWO}, TWO),
    ("closings", "closing", {"dyeing": WAY}, ((0, 1, 2), (3, 4, 3), (2, 1, 0))),
    ("closings", "round_row", {"dyeing": WAY}, (3, 5)),
    ("marks", "marked", {"dyeing": TWO, "places": (1,)}, ((0, 1), (1, 2))),
    ("marks", "place_parts", {"dyeing": WAY}, ((0, 2), (1,))),
    ("marks", "least_base", {"dyeing": WAY}, (0,)),
    ("steps", "steps_breach", {"dyeing": TWO, "value": STEPS}, None),
    ("steps", "told_tables", {"dyeing": TWO, "steps": (("dye", 1),)}, (((0, 1), (1, 0)),)),
    ("steps", "is_telling", {"dyeing": TWO, "steps": (("dye", 1),), "pair": (0, 0), "other": (0, 1)}, True),
    ("tellings", "telling_steps", {"dyeing": TWO, "pair": (0, 1), "other": (1, 0)}, None),
    ("moves", "is_move", {"dyeing": WAY, "value": (2, 1, 0)}, True),
    ("moves", "moves_of", {"dyeing": WAY}, ((0, 1, 2), (2, 1, 0))),
    ("moves", "move_count", {"dyeing": THREE}, 6),
    ("moves", "carrying_move", {"dyeing": WAY, "pair": (0, 1), "other": (2, 1)}, (2, 1, 0)),
    ("moves", "carrying_move", {"dyeing": WAY, "pair": (0, 1), "other": (1, 2)}, None),
    ("groups", "move_dyeing", {"dyeing": WAY}, ((0, 1, 2), (3, 4, 3), (2, 1, 0))),
    ("groups", "group_dyeing", {"n": 3, "listings": ((1, 2, 0),)}, ((0, 1, 2), (2, 0, 1), (1, 2, 0))),
    ("leads", "leads", {"one": ((0, 0), (0, 1)), "other": ((0, 1), (1, 1))}, ((1, 0),)),
    ("sheets", "sheet_of", {"dyeing": TWO}, SHEET),
    ("sheets", "sheet_breach", {"value": SHEET}, None),
    ("sheets", "sheet_breach", {"value": [SHEET]}, "form"),
    ("sheets", "degree", {"sheet": SHEET, "dye": 1}, 1),
    ("sheets", "sizes", {"sheet": SHEET}, (2,)),
    ("sheetleads", "dye_leads", {"one": SHEET, "other": SHEET}, ((0, 1),)),
    ("joinings", "joined_dyes", {"dyeing": WAY, "joining": ((0,), (1, 2))}, THREE),
    ("joinings", "joining_of", {"dyeing": WAY, "other": THREE}, ((0,), (1, 2))),
    ("joinings", "closed_joinings", {"dyeing": SQUARE}, (((0,), (1,), (2,)), ((0,), (1, 2)))),
    ("joinings", "led_joining", {"dyeing": THREE, "listings": ((0, 1),)}, ((0,), (1,))),
    ("rooms", "is_even", {"dyeing": THREE}, True),
    ("rooms", "room_set_of", {"dyeing": SQUARE, "dyes": (2,)}, (0, 2)),
    ("rooms", "room_sets", {"dyeing": SQUARE}, ((0,), (0, 1, 2), (0, 2))),
    ("rooms", "rooms", {"dyeing": SQUARE, "room_set": (0, 2)}, ((0, 2), (1, 3))),
    ("rooms", "in_room", {"dyeing": SQUARE, "room_set": (0, 2), "k": 1}, TWO),
    ("rooms", "between_rooms", {"dyeing": SQUARE, "room_set": (0, 2)}, TWO),
    ("rooms", "is_whole", {"dyeing": THREE}, True),
    ("rooms", "lot_dyeing", {"dyeing": ((0, 1, 1), (2, 3, 4), (2, 4, 3)), "k": 1}, TWO),
    ("products", "side_by_side", {"one": ((0,),), "other": TWO}, ((0, 1, 1), (2, 3, 4), (2, 4, 3))),
    ("products", "woven", {"one": ((0,),), "other": WAY}, WAY),
    ("products", "nested", {"one": TWO, "other": ((0,),)}, TWO),
    ("products", "power", {"dyeing": TWO, "k": 2}, ((0, 1, 1, 2), (1, 0, 2, 1), (1, 2, 0, 1), (2, 1, 1, 0))),
    ("products", "taken_apart", {"dyeing": SQUARE}, ()),
    ("shades", "is_plain", {"dyeing": THREE}, True),
    ("shades", "shades", {"dyeing": SQUARE}, ((1, 2, 1), (1, 0, -1), (1, -2, 1))),
    ("shades", "ranks", {"dyeing": SQUARE}, (1, 2, 1)),
    ("shades", "second_table", {"dyeing": THREE}, (((1, 1), (2, 1)), ((1, 1), (-1, 1)))),
    ("shades", "idle_table", {"dyeing": TWO, "j": 1}, (((1, 2), (-1, 2)), ((-1, 2), (1, 2)))),
    (
        "shades", "second_counts", {"dyeing": TWO},
        ((((1, 1), (0, 1)), ((0, 1), (1, 1))), (((0, 1), (1, 1)), ((1, 1), (0, 1)))),
    ),
    ("shades", "shade_kinds", {"dyeing": SQUARE, "joining": ((0,), (1, 2))}, ((0,), (1, 2))),
    ("sums", "row_of", {"sizes": (2, 3), "b": 5}, (1, 2)),
    ("sums", "added", {"sizes": (2, 3), "a": 5, "b": 4}, 0),
    ("sums", "taken", {"sizes": (2, 3), "a": 1, "b": 5}, 5),
    ("sums", "cut_dyeing", {"sizes": (4,), "cut": ((0,), (1, 3), (2,))}, SQUARE),
    ("sums", "is_closed_cut", {"sizes": (4,), "cut": ((0,), (1, 3), (2,))}, True),
    ("sums", "closed_cuts", {"sizes": (3,)}, (((0,), (1,), (2,)), ((0,), (1, 2)))),
    ("sums", "least_closed_cut", {"sizes": (3,), "cut": ((0,), (1, 2))}, ((0,), (1, 2))),
    ("sums", "additive_listings", {"sizes": (3,)}, ((0, 1, 2), (0, 2, 1))),
    ("sums", "orbit_cut", {"sizes": (3,), "listings": ((0, 2, 1),)}, ((0,), (1, 2))),
    ("characters", "wheel", {"d": 6}, (1, -1, 1)),
    ("characters", "character_sum", {"sizes": (3,), "numbers": (1,), "a": 2}, (-1, -1)),
    ("characters", "dual_cut", {"sizes": (3,), "cut": ((0,), (1, 2))}, ((0,), (1, 2))),
    ("characters", "rational_cut", {"sizes": (4,)}, ((0,), (1, 3), (2,))),
    ("lots", "inner_row", {"dyeing": SQUARE, "lot": (0, 1, 2)}, ((1, 1), (4, 3), (2, 3))),
    ("lots", "outer_row", {"dyeing": SQUARE, "lot": (0, 2)}, ((2, 1), (0, 1), (2, 1))),
    ("lots", "is_level", {"dyeing": SQUARE, "lot": (0, 2), "numbers": (1,)}, True),
    ("lots", "greatest_lot", {"dyeing": SQUARE, "dyes": (2,)}, (0, 2)),
    ("weighings", "weighing_breach", {"dyeing": TWO, "dyes": (1,), "value": ((1, 1), (1, 1))}, None),
    ("weighings", "weighing_breach", {"dyeing": TWO, "dyes": (1,), "value": ((1, 1), (0, 1))}, 3),
    ("weighings", "bound_of", {"dyeing": TWO, "dyes": (1,), "weighing": ((1, 1), (3, 2))}, (5, 2)),
    ("weighings", "least_bound", {"dyeing": TWO, "dyes": (1,)}, (2, 1)),
    ("weighings", "best_weighing", {"dyeing": TWO, "dyes": (1,)}, ((1, 1), (1, 1))),
    ("weighings", "best_inner", {"dyeing": TWO, "dyes": (1,)}, ((1, 1), (1, 1))),
    ("webs", "web_dyeing", {"web": RING}, SQUARE),
    ("webs", "distances", {"web": RING}, SQUARE),
    ("webs", "distance_dyeing", {"web": RING}, SQUARE),
    ("webs", "far_web", {"web": RING, "d": 2}, (4, ((0, 2), (1, 3)))),
    ("webs", "array_of", {"web": RING}, ((2, 1), (1, 2))),
    ("webs", "array_breach", {"value": ((2, 1), (1, 2))}, None),
    ("webs", "array_breach", {"value": [(2, 1), (1, 2)]}, "form"),
    ("webs", "array_row", {"array": ((2, 1), (1, 2))}, (1, 2, 1)),
    ("families", "ring_web", {"n": 4}, RING),
    ("families", "letter_web", {"k": 1, "q": 3}, (3, ((0, 1), (0, 2), (1, 2)))),
    ("families", "choice_web", {"n": 3, "k": 2}, (3, ((0, 1), (0, 2), (1, 2)))),
    ("families", "parts_web", {"numbers": (1, 2)}, (3, ((0, 1), (0, 2)))),
    ("families", "line_web", {"web": (3, ((0, 1), (1, 2)))}, (2, ((0, 1),))),
    ("lists", "closed_dyeings", {"n": 2}, (TWO, ((0, 1), (2, 3)))),
    ("books", "done", {"dyeing": WAY, "deed": ("join", 1, 2)}, THREE),
]


def is_plain_value(value):
    """Whether a value is an integer, a string, True, False, None or a tuple of such."""
    if type(value) is tuple:
        return all(is_plain_value(part) for part in value)
    return value is None or type(value) in (int, str, bool)


class InterfaceTest(unittest.TestCase):
    def test_functions_are_defined_in_their_files_with_their_arguments(self):
        for file, functions in FUNCTIONS.items():
            module = importlib.import_module(f"pairdyes.{file}")
            for name, arguments in functions.items():
                with self.subTest(file=file, name=name):
                    function = getattr(module, name)
                    self.assertTrue(inspect.isfunction(function))
                    self.assertEqual(function.__module__, f"pairdyes.{file}")
                    self.assertEqual(list(inspect.signature(function).parameters), arguments)

    def test_each_function_is_called_below(self):
        called = {(file, name) for file, name, _, _ in CALLS}
        listed = {(file, name) for file, functions in FUNCTIONS.items() for name in functions}
        self.assertEqual(called, listed)

    def test_arguments_by_name_and_by_place_give_the_same(self):
        for file, name, arguments, expected in CALLS:
            with self.subTest(file=file, name=name):
                function = getattr(importlib.import_module(f"pairdyes.{file}"), name)
                by_name = function(**arguments)
                by_place = function(*arguments.values())
                self.assertEqual(by_name, expected)
                self.assertEqual(by_place, expected)
                self.assertIs(type(by_name), type(expected))

    def test_what_is_returned_is_plain(self):
        for file, name, arguments, _ in CALLS:
            with self.subTest(file=file, name=name):
                function = getattr(importlib.import_module(f"pairdyes.{file}"), name)
                self.assertTrue(is_plain_value(function(**arguments)))

    def test_arguments_are_unchanged_behind_a_call(self):
        for file, name, arguments, _ in CALLS:
            with self.subTest(file=file, name=name):
                function = getattr(importlib.import_module(f"pairdyes.{file}"), name)
                passed = copy.deepcopy(arguments)
                function(**passed)
                self.assertEqual(passed, arguments)

    def test_lists_that_are_passed_as_any_value_are_unchanged(self):
        from pairdyes.dyeings import dyeing_breach
        from pairdyes.steps import is_telling, steps_breach
        value = [[0, 1], [1, 0]]
        dyeing_breach(value)
        self.assertEqual(value, [[0, 1], [1, 0]])
        steps = (["dye", 1],)
        steps_breach(TWO, steps)
        is_telling(TWO, steps, (0, 0), (0, 1))
        self.assertEqual(steps, (["dye", 1],))

    def test_lists_in_later_functions_are_unchanged(self):
        from pairdyes.books import Book, done
        from pairdyes.characters import dual_cut
        from pairdyes.errors import NotAdditive, NotCut, NotDeed, NotJoining, NotWeighing
        from pairdyes.shades import shade_kinds
        from pairdyes.sums import cut_dyeing, is_closed_cut, least_closed_cut, orbit_cut
        from pairdyes.webs import array_breach
        from pairdyes.weighings import bound_of, weighing_breach
        value = [[0], [1, 2]]
        for wrong in (value, (value,), tuple(value)):
            self.assertEqual(array_breach(wrong), "form")
            self.assertEqual(weighing_breach(THREE, (1,), wrong), -1)
            self.assertRaises(NotWeighing, bound_of, THREE, (1,), wrong)
            self.assertRaises(NotJoining, shade_kinds, SQUARE, wrong)
            for function in (cut_dyeing, is_closed_cut, least_closed_cut, dual_cut):
                self.assertRaises(NotCut, function, (3,), wrong)
            self.assertRaises(NotAdditive, orbit_cut, (3,), wrong)
            for call in (Book(WAY).do, Book(WAY).trial, lambda deed: done(WAY, deed)):
                self.assertRaises(NotDeed, call, wrong)
        self.assertEqual(value, [[0], [1, 2]])

    def test_lists_within_any_value_are_unchanged(self):
        from pairdyes.errors import NotJoining, NotLeads
        from pairdyes.joinings import joined_dyes, led_joining
        from pairdyes.moves import is_move
        from pairdyes.sheets import sheet_breach
        value = [[0, 1], [2]]
        is_move(WAY, value)
        is_move(WAY, (value,))
        sheet_breach((value, value, value))
        for wrong in (value, (value,), tuple(value)):
            self.assertRaises(NotJoining, joined_dyes, WAY, wrong)
            self.assertRaises(NotLeads, led_joining, THREE, wrong)
        self.assertEqual(value, [[0, 1], [2]])

    def test_the_class_of_books(self):
        from pairdyes.books import Book
        self.assertEqual(Book.__module__, "pairdyes.books")
        self.assertLessEqual({"now", "deeds", "do", "undo", "again", "trial", "twin"}, set(vars(Book)))
        book = Book(WAY)
        self.assertIsNone(book.do(("close",)))
        for told in (book.now, book.deeds, book.trial(()), book.undo(), book.again()):
            self.assertTrue(is_plain_value(told))
        self.assertIs(type(book.twin()), Book)

    def test_too_many_places(self):
        from pairdyes.books import done
        from pairdyes.dyeings import dyed
        from pairdyes.errors import NotCut, NotDeed, TooMany
        from pairdyes.families import choice_web, letter_web, line_web, parts_web, ring_web
        from pairdyes.groups import group_dyeing
        from pairdyes.products import nested, power, side_by_side, woven
        from pairdyes.sums import cut_dyeing
        from pairdyes.webs import distance_dyeing, web_dyeing
        wide = tuple((0,) * 17 for _ in range(17))
        nine = samples.even_dyeing(9)
        cut = tuple((number,) for number in range(18))
        for function, *rest in [
            (dyed, wide), (group_dyeing, 17, ()), (side_by_side, nine, nine), (woven, nine, TWO), (nested, TWO, nine),
            (power, THREE, 3), (web_dyeing, (17, ())), (distance_dyeing, (17, ())), (cut_dyeing, (2, 9), cut),
            (ring_web, 17), (letter_web, 2, 5), (choice_web, 17, 1), (parts_web, (9, 8)), (line_web, (7, tuple(
                (x, y) for y in range(7) for x in range(y)
            ))),
        ]:
            with self.subTest(function=function.__name__), self.assertRaises(TooMany) as caught:
                function(*rest)
            self.assertEqual(caught.exception.limit, 16)
        # Other errors come ahead of it.
        self.assertRaises(NotCut, cut_dyeing, (2, 9), cut[1:])
        self.assertRaises(NotDeed, done, nine, ("beside", nine))


if __name__ == "__main__":
    unittest.main()
