"""The names, arguments and places of the interface."""

import importlib
import inspect
import unittest

FUNCTIONS = {
    "bags": [
        "together(one, other)", "less(one, other)", "behind(one, other)", "times(bag, number)",
        "power(bag, number)", "mirrored(bag)", "replaced(bag, bags)", "top(bag)", "plain(bag)",
        "level_of(bag, number)", "all_together(bags)", "all_behind(bags)", "in_order(bags)",
        "number_at(bag, word)", "length(bag)", "first(bag)",
    ],
    "cuts": [
        "cut(bag, number)", "crossing(bag, number)", "is_crossing(bag, number, thing)", "level_way(bag)",
    ],
    "fronts": [
        "front_parts(bag)", "back_parts(bag)", "is_front_part(bag, thing)", "is_unsplittable(thing)",
    ],
    "rows": [
        "rest_behind(front, bag)", "rest_ahead(bag, back)", "continued(one, other)", "rest(row, bag)",
        "front_common(one, other)", "base(row)", "idle(row)", "made(row, bag)", "is_made(row, bag, thing)",
    ],
    "systems": ["solved(system, goals)", "is_solved(system, goals, thing)", "idle_all(system)"],
    "euclids": [
        "back_common(one, other)", "continuant(bags)", "continued_ahead(one, other)", "quotients(one, other)",
    ],
    "middles": ["middle_parts(bag)", "many_by_length(bag)"],
    "webs": ["knots(bag)", "befores(bag)", "lot_of(bag, part)", "part_of(bag, lot)", "many_parts(bag)"],
    "ways": [
        "way_of(bag, order)", "order_of(bag, way)", "way_at(bag, number)", "is_way(bag, thing)", "many_ways(bag)",
        "index_of(bag, way)",
    ],
    "exchanges": [
        "exchanged(bag, way, place)", "distance(bag, one, other)", "exchanges(bag, one, other)",
        "is_exchanges(bag, one, other, thing)", "at_place(bag, place)", "factors_at(bag, knot)",
    ],
    "listing": ["all_ways(bag)", "farthest(bag)"],
    "priced": ["cheapest_order(bag, prices)", "many_cheapest(bag, prices)"],
    "widths": ["widest(bag)", "deepest(bag)", "cover(bag)", "is_cover(bag, thing)"],
    "alikes": ["alike(one, other)", "is_alike(one, other, thing)"],
    "carriers": ["carriers(one, other)"],
    "classes": ["alike_classes(bags)", "knot_classes(bag)"],
    "places": [
        "change_places(one, other)", "root(bag)", "one_root(one, other)", "in_powers(bag, base)",
        "products(one, other, most)", "dependence(one, other, most)",
    ],
    "stocks": ["cheapest(goal, stock)", "heights(goal, stock)", "many_rows(goal, stock)"],
    "starts": ["is_full(alphabet, thing)", "beginnings(alphabet, bag)", "unmet(alphabet, bag, letters)"],
    "letters": ["peelings(one, other)", "is_peelings(one, other, thing)", "twist(one, other)"],
    "counting": [
        "census(clock, letters, length)", "many_unsplittable(clock, letters, length)",
        "refuted(claim, clock, letters, length)",
    ],
    "texts": ["bag_text(bag)", "row_text(bags)", "way_text(way)", "web_text(bag)"],
    "reading": ["read_bag(clock, text)", "read_row(text)", "read_way(clock, text)"],
}

METHODS = {
    ("bags", "Bag"): ["__init__(self, clock, words)", "__eq__(self, other)"],
    ("bench", "Bench"): [
        "__init__(self, clock)", "lay(self, thing)", "take(self, place)", "put(self, place, word, number)",
        "fuse(self, place)", "cleave(self, place, number)", "bags(self)", "whole(self)", "back(self)", "depth(self)",
        "copy(self)", "trying(self, action)",
    ],
    ("desk", "Desk"): ["__init__(self, clock)", "tell(self, line)", "undoable(self)"],
}


class Interface(unittest.TestCase):

    def told(self, function):
        names = ", ".join(inspect.signature(function).parameters)
        return f"{function.__name__}({names})"

    def test_each_function_stands_in_its_file_with_its_arguments(self):
        for module, lines in FUNCTIONS.items():
            found = importlib.import_module(f"frontparts.{module}")
            for line in lines:
                function = getattr(found, line.partition("(")[0])
                self.assertEqual(self.told(function), line)
                self.assertEqual(function.__module__, f"frontparts.{module}")

    def test_each_class_defines_its_own_methods(self):
        for (module, name), lines in METHODS.items():
            found = getattr(importlib.import_module(f"frontparts.{module}"), name)
            self.assertEqual(found.__module__, f"frontparts.{module}")
            for line in lines:
                self.assertEqual(self.told(vars(found)[line.partition("(")[0]]), line)


if __name__ == "__main__":
    unittest.main()
