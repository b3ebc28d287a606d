"""Stands of dykes [3.1] and flood heights of fields [3.2]."""

import itertools
import unittest

from dykemoot.errors import NoSluice
from dykemoot.floods import flood_heights, stands
from dykemoot.lands import Land
from tests.helper import (ANYTHING, DYKES, FIELDS, assert_refused, floods_by_hand, letters, sample, sets_of_sluices,
                          some_land, stand, widest)


class TestStands(unittest.TestCase):
    def test_all_shut(self):
        self.assertEqual(stands(sample(), []), {"west": 4, "gate": 9, "marsh": 6, "lock": 3})

    def test_some_open(self):
        self.assertEqual(stands(sample(), ["gate"]), {"west": 4, "gate": -2, "marsh": 6, "lock": 3})
        self.assertEqual(stands(sample(), ["lock", "marsh"]), {"west": 4, "gate": 9, "marsh": 5, "lock": 2})

    def test_all_open_in_any_order(self):
        for order in itertools.permutations(["gate", "marsh", "lock"]):
            self.assertEqual(stands(sample(), list(order)), {"west": 4, "gate": -2, "marsh": 5, "lock": 2})

    def test_a_sluice_told_twice(self):
        self.assertEqual(stands(sample(), ["gate", "gate"]), stands(sample(), ["gate"]))
        self.assertEqual(stands(sample(), ["lock", "gate", "lock", "lock"]), stands(sample(), ["gate", "lock"]))

    def test_told_in_the_order_of_dykes(self):
        told = stands(sample(), ["lock", "gate"])
        self.assertIs(type(told), dict)
        self.assertEqual(list(told), ["west", "gate", "marsh", "lock"])
        self.assertEqual(list(stands(widest(), [])), widest().dyke_names())

    def test_a_sill_of_nought(self):
        land = Land([("a", 0, 0)], [("b", "a", "sea", 1, 0, 0)])
        self.assertEqual((stands(land, []), stands(land, ["b"])), ({"b": 1}, {"b": 0}))

    def test_raising_lifts_the_crown_and_not_the_sill(self):
        land = sample().raised([("gate", 12)])
        self.assertEqual((stands(land, [])["gate"], stands(land, ["gate"])["gate"]), (12, -2))

    def test_many_lands(self):
        for seed in range(60):
            land = some_land(seed)
            for opened in sets_of_sluices(land):
                self.assertEqual(stands(land, opened), dict((row[0], stand(row, opened)) for row in land.dykes()))


class TestFloodHeights(unittest.TestCase):
    def test_all_shut(self):
        self.assertEqual(flood_heights(sample(), []), {"marsh": 4, "polder": 6, "mill": 5})

    def test_some_open(self):
        self.assertEqual(flood_heights(sample(), ["gate"]), {"marsh": 4, "polder": 2, "mill": 5})
        self.assertEqual(flood_heights(sample(), ["marsh"]), {"marsh": 4, "polder": 5, "mill": 5})
        self.assertEqual(flood_heights(sample(), ["gate", "marsh", "lock"]), {"marsh": 4, "polder": 2, "mill": 5})

    def test_a_sluice_told_twice(self):
        self.assertEqual(flood_heights(sample(), ["gate", "gate"]), {"marsh": 4, "polder": 2, "mill": 5})

    def test_told_in_the_order_of_fields(self):
        told = flood_heights(Land(FIELDS[::-1], DYKES), [])
        self.assertIs(type(told), dict)
        self.assertEqual(list(told.items()), [("mill", 5), ("polder", 6), ("marsh", 4)])

    def test_one_field_behind_one_dyke(self):
        for sides in [("a", "sea"), ("sea", "a")]:
            for ground, crown in itertools.product([-10 ** 6, -1, 0, 1, 10 ** 6], repeat=2):
                land = Land([("a", ground, 0)], [("b", sides[0], sides[1], crown, 0, None)])
                self.assertEqual(flood_heights(land, []), {"a": max(ground, crown)})

    def test_fields_whose_names_stand_round_the_sea_in_the_alphabet(self):
        fields = [("sdz", 0, 0), ("seas", 0, 0), ("zzzzzzzz", 0, 0), ("s", 0, 0)]
        dykes = [("u", "zzzzzzzz", "seas", 3, 0, None), ("v", "sea", "zzzzzzzz", 1, 0, None),
                 ("w", "sdz", "seas", 2, 0, None), ("x", "s", "sea", 4, 0, None)]
        self.assertEqual(flood_heights(Land(fields, dykes), []), {"sdz": 3, "seas": 3, "zzzzzzzz": 1, "s": 4})

    def test_grounds_on_the_way_count(self):
        fields = [("a", 7, 0), ("b", 0, 0), ("c", 9, 0)]
        dykes = [("x", "sea", "a", 1, 0, None), ("y", "b", "a", 2, 0, None), ("z", "b", "c", 3, 0, None)]
        self.assertEqual(flood_heights(Land(fields, dykes), []), {"a": 7, "b": 7, "c": 9})

    def test_the_lowest_of_several_ways(self):
        fields = [("a", 0, 0), ("b", 0, 0), ("c", 0, 0)]
        dykes = [("straight", "sea", "c", 9, 0, 1), ("x", "sea", "a", 4, 0, None), ("y", "a", "b", 5, 0, None),
                 ("z", "b", "c", 3, 0, None)]
        self.assertEqual(flood_heights(Land(fields, dykes), []), {"a": 4, "b": 5, "c": 5})
        self.assertEqual(flood_heights(Land(fields, dykes), ["straight"]), {"a": 4, "b": 3, "c": 1})

    def test_the_lowest_of_several_dykes_between_the_same_sides(self):
        for crowns in itertools.permutations([3, 5, 8]):
            dykes = [(name, "sea", "a", crown, 0, None) for name, crown in zip("xyz", crowns)]
            self.assertEqual(flood_heights(Land([("a", 0, 0)], dykes), []), {"a": 3})

    def test_fields_that_no_way_leads_to(self):
        fields = [("a", 1, 0), ("b", 2, 0), ("c", 3, 0), ("d", 4, 0)]
        dykes = [("x", "sea", "a", 5, 0, None), ("y", "b", "c", 0, 0, -1)]
        self.assertEqual(flood_heights(Land(fields, dykes), []), {"a": 5, "b": None, "c": None, "d": None})
        self.assertEqual(flood_heights(Land(fields, dykes), ["y"]), {"a": 5, "b": None, "c": None, "d": None})
        self.assertEqual(flood_heights(Land(fields, dykes[1:]), []), dict.fromkeys("abcd"))

    def test_a_height_of_nought_is_no_none(self):
        land = Land([("a", -1, 0), ("b", -5, 0)], [("x", "sea", "a", 0, 0, None), ("y", "a", "b", -3, 0, None)])
        self.assertEqual(flood_heights(land, []), {"a": 0, "b": 0})

    def test_a_long_chain_told_from_its_far_end(self):
        land = widest()
        self.assertEqual(flood_heights(land, []), dict((letters(place), 100 + place) for place in range(12)))
        self.assertEqual(flood_heights(land, land.dyke_names()),
                         dict((letters(place), place) for place in range(12)))

    def test_a_low_way_through_all_fields(self):
        names = [letters(place) for place in range(12)]
        ends = ["sea"] + names
        low = [(letters(place), names[place], ends[place], 1, 0, None) for place in range(12)]
        high = [(letters(20 + place), "sea", names[place], 50 + place, 0, None) for place in range(1, 12)]
        for dykes in [high + low[::-1], low[::-1] + high, low + high]:
            land = Land([(name, 0, 0) for name in names], dykes)
            self.assertEqual(flood_heights(land, []), dict.fromkeys(names, 1))

    def test_raised_lands(self):
        land = sample().raised([("west", 7)])
        self.assertEqual(flood_heights(land, []), {"marsh": 7, "polder": 7, "mill": 7})
        self.assertEqual(flood_heights(land.raised([("west", 20)]), []), {"marsh": 9, "polder": 9, "mill": 9})

    def test_as_by_walking_every_way(self):
        for seed in range(200):
            land = some_land(seed)
            for opened in sets_of_sluices(land):
                told = flood_heights(land, opened)
                self.assertEqual(list(told), land.field_names())
                self.assertEqual(told, floods_by_hand(land, opened), (seed, opened))


class TestNoSluice(unittest.TestCase):
    def assert_no_sluice(self, opened, land=None):
        land = land or sample()
        assert_refused(self, NoSluice, stands, land, opened)
        assert_refused(self, NoSluice, flood_heights, land, opened)

    def test_anything_else(self):
        for thing in ANYTHING + ["gate", ("gate",), {"gate": -2}, {"gate"}, ("gate", "lock")]:
            if not (type(thing) is list and thing == []):
                self.assert_no_sluice(thing)

    def test_something_else_among_the_sluices(self):
        for thing in ANYTHING + [["gate"], ("gate",), DYKES[1], "GATE", "gat"]:
            for opened in [[thing], ["gate", thing], [thing, "lock", "gate"]]:
                self.assert_no_sluice(opened)

    def test_a_dyke_without_a_sluice(self):
        self.assert_no_sluice(["west"])
        self.assert_no_sluice(["gate", "west"])

    def test_a_field_is_no_sluice(self):
        self.assert_no_sluice(["mill"])
        self.assert_no_sluice(["polder", "gate"])

    def test_a_land_without_sluices(self):
        land = Land(FIELDS, DYKES[:1])
        self.assertEqual(stands(land, []), {"west": 4})
        self.assert_no_sluice(["west"], land)
        self.assert_no_sluice(["gate"], land)


class TestOwnValues(unittest.TestCase):
    def test_nothing_handed_in_is_changed(self):
        land, opened = sample(), ["lock", "gate", "lock"]
        stands(land, opened)
        flood_heights(land, opened)
        self.assertEqual(opened, ["lock", "gate", "lock"])
        self.assertEqual((land.fields(), land.dykes()), (FIELDS, DYKES))

    def test_told_dicts_are_the_askers_own(self):
        land, opened = sample(), ["gate"]
        for ask in [stands, flood_heights]:
            first, kept = ask(land, opened), ask(land, opened)
            before = dict(kept)
            first.clear()
            opened.append("lock")
            self.assertEqual(kept, before)
            opened.remove("lock")
            self.assertEqual(ask(land, opened), before)


if __name__ == "__main__":
    unittest.main()
