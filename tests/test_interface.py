"""The names and arguments of the interface."""

import importlib
import inspect
import unittest

FUNCTIONS = {
    "lands": ["is_whole(thing)", "is_name(thing)", "is_height(thing)"],
    "texts": ["show_land(land)", "read_land(text)", "number_of(word)"],
    "floods": ["stands(land, opened)", "flood_heights(land, opened)"],
    "rings": ["way_to(land, opened, field)", "way_height(land, opened, field, way)", "ring_round(land, opened, field)",
              "kept_out(land, opened, ring)", "flooded(land, opened, level)"],
    "decrees": ["are_decrees(land, thing)", "show_decrees(decrees)", "read_decrees(land, text)",
                "holds(decree, level, wet, day)", "opened_by(land, decrees, opened, level, wet, day)"],
    "coins": ["keeps(land, fields, height)", "coins_of(land, works)", "fewest(land, fields, height)",
              "paper_for(land, fields, height, stream)"],
    "companies": ["cost(land, fields, height)", "saved(land, one, other, height)", "companies(land, fields, height)"],
    "shares": ["fraction(top, bottom)", "plus(one, other)", "minus(one, other)", "less(one, other)",
               "shares(land, fields, height)"],
}
CLASSES = {
    ("lands", "Land(fields, dykes)"): [
        "fields(self)", "dykes(self)", "field_names(self)", "dyke_names(self)", "sluices(self)", "ground(self, field)",
        "dues(self, field)", "dyke(self, name)", "raised(self, works)"],
    ("seasons", "Season(land, decrees)"): [
        "day(self, level)", "days(self, levels)", "opened(self)", "wet(self)", "count(self)", "wet_days(self)",
        "onto(self, land)"],
    ("moots", "Moot(land, purses)"): [
        "move(self, fields, height, yes)", "put(self, field, coins)", "land(self)", "purses(self)", "done(self)"],
    ("desk", "Desk()"): ["say(self, row)"],
}


class TestInterface(unittest.TestCase):
    def assert_there(self, holder, called):
        name = called.partition("(")[0]
        thing = getattr(holder, name)
        self.assertEqual(name + str(inspect.signature(thing)), called)
        return thing

    def test_functions(self):
        for module, all_called in FUNCTIONS.items():
            for called in all_called:
                self.assert_there(importlib.import_module("dykemoot." + module), called)

    def test_classes(self):
        for (module, called), methods in CLASSES.items():
            made = self.assert_there(importlib.import_module("dykemoot." + module), called)
            for method in methods:
                self.assert_there(made, method)


if __name__ == "__main__":
    unittest.main()
