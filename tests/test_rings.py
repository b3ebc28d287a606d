"""Ways [4.1], rings [4.2] and the fields that the sea floods [4.3]."""

import itertools
import unittest

from dykemoot.errors import NoRing, NoSluice, NoWay
from dykemoot.floods import flood_heights
from dykemoot.lands import Land
from dykemoot.rings import flooded, kept_out, ring_round, way_height, way_to
from tests.helper import (ANYTHING, DYKES, FIELDS, assert_refused, floods_by_hand, height_by_hand, letters, sample,
                          sets_of_sluices, some_land, stand, ways_on, widest)

TOP = 10 ** 6


def cut_off():
    """Two fields at the sea, two behind a dyke of their own that no way leads to, one that no dyke touches."""
    fields = [("a", 1, 0), ("b", 2, 0), ("c", 3, 0), ("d", 4, 0), ("e", 5, 0)]
    dykes = [("x", "sea", "a", 5, 0, 2), ("y", "c", "d", 0, 0, -1), ("z", "b", "a", 7, 0, None)]
    return Land(fields, dykes)


def rings_on(land):
    names = land.field_names()
    return [list(some) for size in range(1, len(names) + 1) for some in itertools.combinations(names, size)]


def kept_out_by_hand(land, opened, ring):
    heights = []
    for row in land.dykes():
        inside = [side for side in row[1:3] if side in ring]
        if len(inside) == 1:
            heights.append(max(stand(row, opened), land.ground(inside[0])))
    return min(heights) if heights else None


class TestWayTo(unittest.TestCase):
    def test_all_shut(self):
        self.assertEqual(way_to(sample(), [], "marsh"), ["west"])
        self.assertEqual(way_to(sample(), [], "polder"), ["west", "marsh"])
        self.assertEqual(way_to(sample(), [], "mill"), ["west", "lock"])

    def test_some_open(self):
        self.assertEqual(way_to(sample(), ["gate"], "polder"), ["gate"])
        self.assertEqual(way_to(sample(), ["marsh"], "polder"), ["west", "marsh"])
        self.assertEqual(way_to(sample(), ["gate", "gate"], "polder"), ["gate"])

    def test_tells_a_list_of_dykes_that_have_names_of_fields(self):
        told = way_to(sample(), [], "polder")
        self.assertIs(type(told), list)
        self.assertEqual(way_height(sample(), [], "polder", told), 6)

    def test_none_where_there_is_no_way(self):
        for opened in [[], ["y"], ["x", "y"]]:
            for field in "cde":
                self.assertIsNone(way_to(cut_off(), opened, field))
            self.assertEqual(way_to(cut_off(), opened, "b"), ["x", "z"])

    def test_the_low_way_and_not_the_short_one(self):
        fields = [("a", 0, 0), ("b", 0, 0), ("c", 0, 0)]
        dykes = [("straight", "sea", "c", 9, 0, 1), ("x", "sea", "a", 4, 0, None), ("y", "a", "b", 5, 0, None),
                 ("z", "b", "c", 3, 0, None)]
        self.assertEqual(way_to(Land(fields, dykes), [], "c"), ["x", "y", "z"])
        self.assertEqual(way_to(Land(fields, dykes), ["straight"], "b"), ["straight", "z"])

    def test_a_way_round_a_field_of_high_ground(self):
        fields = [("hill", 8, 0), ("a", 0, 0), ("b", 0, 0)]
        dykes = [("w", "sea", "hill", 1, 0, None), ("x", "hill", "b", 1, 0, None), ("y", "sea", "a", 3, 0, None),
                 ("z", "a", "b", 3, 0, None)]
        self.assertEqual(way_to(Land(fields, dykes), [], "b"), ["y", "z"])

    def test_lowest_and_highest_heights(self):
        for height in [-TOP, TOP]:
            land = Land([("a", height, 0)], [("b", "a", "sea", height, 0, None)])
            self.assertEqual(way_to(land, [], "a"), ["b"])

    def test_a_long_chain_told_from_its_far_end(self):
        land = widest()
        way = way_to(land, [], "l")
        self.assertEqual(way, [letters(place) for place in range(12)])
        self.assertEqual(way_height(land, [], "l", way), 111)

    def test_its_height_is_the_flood_height_on_many_lands(self):
        for seed in range(200):
            land = some_land(seed)
            ways = ways_on(land)
            for opened in sets_of_sluices(land):
                least = floods_by_hand(land, opened)
                for field in land.field_names():
                    told = way_to(land, opened, field)
                    if least[field] is None:
                        self.assertIsNone(told)
                    else:
                        along = [fields for way, fields in ways if way == told and fields[-1] == field]
                        self.assertEqual(len(along), 1, (seed, opened, field, told))
                        self.assertEqual(height_by_hand(land, opened, told, along[0]), least[field])
                        self.assertEqual(way_height(land, opened, field, told), least[field])


class TestWayHeight(unittest.TestCase):
    def test_the_greatest_of_stands_and_grounds(self):
        land = sample()
        self.assertEqual(way_height(land, [], "marsh", ["west"]), 4)
        self.assertEqual(way_height(land, [], "marsh", ["gate", "marsh"]), 9)
        self.assertEqual(way_height(land, ["gate"], "marsh", ["gate", "marsh"]), 6)
        self.assertEqual(way_height(land, ["marsh", "gate"], "marsh", ["gate", "marsh"]), 5)
        self.assertEqual(way_height(land, ["lock", "gate", "marsh"], "mill", ["gate", "marsh", "lock"]), 5)
        self.assertEqual(way_height(land, ["gate"], "polder", ["gate"]), 2)

    def test_the_last_fields_ground_counts_and_that_of_one_on_the_way(self):
        fields = [("a", 7, 0), ("b", 0, 0), ("c", 9, 0)]
        dykes = [("x", "sea", "a", 1, 0, None), ("y", "b", "a", 2, 0, None), ("z", "b", "c", 3, 0, None)]
        land = Land(fields, dykes)
        self.assertEqual([way_height(land, [], "a", ["x"]), way_height(land, [], "b", ["x", "y"]),
                          way_height(land, [], "c", ["x", "y", "z"])], [7, 7, 9])

    def test_each_list_of_dykes_is_a_way_or_refused(self):
        for seed in range(60):
            land = some_land(seed, 4, 5)
            opened = land.sluices()[:2]
            ways = dict((tuple(way), fields) for way, fields in ways_on(land))
            for length in range(5):
                for names in itertools.product(land.dyke_names(), repeat=length):
                    for field in land.field_names():
                        handed = (land, opened, field, list(names))
                        if names in ways and ways[names][-1] == field:
                            self.assertEqual(way_height(*handed), height_by_hand(land, opened, names, ways[names]))
                        else:
                            with self.assertRaises(NoWay):
                                way_height(*handed)


class TestNoWay(unittest.TestCase):
    def assert_no_way(self, field, way, land=None):
        assert_refused(self, NoWay, way_height, land or sample(), [], field, way)

    def test_anything_else(self):
        for thing in ANYTHING + ["west", ("west",), {"west": 4}, {"west"}, DYKES[0], [DYKES[0]], [["west"]]]:
            self.assert_no_way("marsh", thing)

    def test_something_else_among_the_dykes(self):
        for thing in ANYTHING + ["mill", "polder", "wes", "West", ("marsh",), ["marsh"]]:
            for way in [["west", thing], [thing, "marsh"], ["west", thing, "marsh"], ["west", "marsh", thing]]:
                self.assert_no_way("polder", way)

    def test_no_dykes(self):
        for field in sample().field_names():
            self.assert_no_way(field, [])

    def test_a_way_to_another_field(self):
        self.assert_no_way("polder", ["west"])
        self.assert_no_way("marsh", ["west", "marsh"])
        self.assert_no_way("marsh", ["west", "lock"])

    def test_dykes_that_do_not_begin_at_the_sea(self):
        self.assert_no_way("polder", ["marsh"])
        self.assert_no_way("mill", ["lock"])
        self.assert_no_way("marsh", ["lock", "west"])

    def test_dykes_that_do_not_touch_one_another(self):
        self.assert_no_way("mill", ["gate", "lock"])
        self.assert_no_way("polder", ["west", "lock", "marsh"])

    def test_dykes_that_lead_back_to_the_sea(self):
        land = Land(FIELDS, DYKES + [("east", "sea", "marsh", 1, 1, None)])
        for way in [["west", "west", "west"], ["west", "east", "west"], ["gate", "gate", "west"],
                    ["west", "marsh", "gate", "east"], ["gate", "marsh", "west", "east"]]:
            self.assert_no_way("marsh", way, land)
        for way in [["west", "west"], ["west", "marsh", "gate"]]:
            for field in ["marsh", "polder", "mill"]:
                self.assert_no_way(field, way, land)

    def test_a_field_twice(self):
        self.assert_no_way("marsh", ["west", "marsh", "marsh"])
        self.assert_no_way("marsh", ["west", "lock", "lock"])
        self.assert_no_way("polder", ["west", "lock", "lock", "marsh"])

    def test_a_field_that_has_no_way(self):
        for way in [["y"], ["x", "y"], ["x"], ["x", "z"], ["x", "z", "y"]]:
            for field in "cde":
                self.assert_no_way(field, way, cut_off())


class TestRingRound(unittest.TestCase):
    def test_all_shut(self):
        for field, height in [("marsh", 4), ("polder", 6), ("mill", 5)]:
            ring = ring_round(sample(), [], field)
            self.assertIn(field, ring)
            self.assertEqual(kept_out(sample(), [], ring), height)

    def test_none_for_none(self):
        for opened in [[], ["y"]]:
            for field in "cde":
                ring = ring_round(cut_off(), opened, field)
                self.assertIn(field, ring)
                self.assertIsNone(kept_out(cut_off(), opened, ring))
            for field, height in [("a", 5), ("b", 7)]:
                self.assertEqual(kept_out(cut_off(), opened, ring_round(cut_off(), opened, field)), height)

    def test_lowest_and_highest_heights(self):
        for height in [-TOP, TOP]:
            land = Land([("a", height, 0)], [("b", "a", "sea", height, 0, None)])
            self.assertEqual(ring_round(land, [], "a"), ["a"])
            self.assertEqual(kept_out(land, [], ["a"]), height)

    def test_keeps_out_just_the_flood_height_on_many_lands(self):
        for seed in range(200):
            land = some_land(seed)
            for opened in sets_of_sluices(land):
                least = floods_by_hand(land, opened)
                for field in land.field_names():
                    ring = ring_round(land, opened, field)
                    self.assertIs(type(ring), list)
                    self.assertIn(field, ring)
                    self.assertEqual(ring, [name for name in land.field_names() if name in ring])
                    self.assertEqual(kept_out_by_hand(land, opened, ring), least[field], (seed, opened, field))


class TestKeptOut(unittest.TestCase):
    def test_the_least_over_the_dykes_that_lead_in(self):
        land = sample()
        self.assertEqual(kept_out(land, [], ["marsh"]), 3)
        self.assertEqual(kept_out(land, [], ["polder"]), 6)
        self.assertEqual(kept_out(land, [], ["mill"]), 5)
        self.assertEqual(kept_out(land, [], ["marsh", "mill"]), 4)
        self.assertEqual(kept_out(land, ["gate"], ["polder", "mill"]), 2)
        self.assertEqual(kept_out(land, ["gate", "marsh", "lock"], ["marsh"]), 2)

    def test_a_ring_of_all_fields(self):
        self.assertEqual(kept_out(sample(), [], ["marsh", "polder", "mill"]), 4)
        self.assertEqual(kept_out(sample(), ["gate"], ["mill", "polder", "marsh"]), 2)
        inland = Land(FIELDS, DYKES[2:])
        self.assertIsNone(kept_out(inland, [], ["marsh", "polder", "mill"]))

    def test_the_ground_in_the_ring_counts_and_not_the_one_outside(self):
        land = Land([("a", 7, 0), ("b", 0, 0)], [("x", "b", "a", 3, 0, None)])
        self.assertEqual((kept_out(land, [], ["a"]), kept_out(land, [], ["b"])), (7, 3))

    def test_none_where_no_dyke_leads_in(self):
        self.assertIsNone(kept_out(cut_off(), ["x"], ["e"]))
        self.assertIsNone(kept_out(cut_off(), ["x"], ["d", "c"]))
        self.assertEqual(kept_out(cut_off(), [], ["c"]), 3)
        self.assertEqual(kept_out(cut_off(), [], ["c", "e"]), 3)

    def test_each_ring_of_many_lands(self):
        for seed in range(120):
            land = some_land(seed, 5, 8)
            for opened in sets_of_sluices(land)[:6]:
                least = flood_heights(land, opened)
                for ring in rings_on(land):
                    height = kept_out(land, opened, ring)
                    self.assertEqual(height, kept_out_by_hand(land, opened, ring), (seed, opened, ring))
                    self.assertEqual(kept_out(land, opened, ring[::-1]), height)
                    for field in ring:
                        self.assertTrue(least[field] is None or height is not None and least[field] >= height)


class TestNoRing(unittest.TestCase):
    def assert_no_ring(self, ring):
        assert_refused(self, NoRing, kept_out, sample(), [], ring)

    def test_anything_else(self):
        for thing in ANYTHING + ["marsh", ("marsh",), {"marsh": -3}, {"marsh"}, FIELDS[0], [FIELDS[0]], [["marsh"]]]:
            self.assert_no_ring(thing)

    def test_something_else_among_the_fields(self):
        for thing in ANYTHING + ["west", "gate", "mar", "Marsh", ("mill",), ["mill"]]:
            for ring in [["marsh", thing], [thing, "marsh"], ["marsh", thing, "mill"]]:
                self.assert_no_ring(ring)

    def test_no_fields(self):
        self.assert_no_ring([])

    def test_a_field_twice(self):
        for ring in [["marsh", "marsh"], ["marsh", "mill", "marsh"], ["polder", "marsh", "mill", "mill"]]:
            self.assert_no_ring(ring)


class TestFlooded(unittest.TestCase):
    def test_at_and_beside_the_flood_heights(self):
        land = sample()
        self.assertEqual(flooded(land, [], 3), [])
        self.assertEqual(flooded(land, [], 4), [])
        self.assertEqual(flooded(land, [], 5), ["marsh"])
        self.assertEqual(flooded(land, [], 6), ["marsh", "mill"])
        self.assertEqual(flooded(land, [], 7), ["marsh", "polder", "mill"])
        self.assertEqual(flooded(land, ["gate"], 2), [])
        self.assertEqual(flooded(land, ["gate"], 3), ["polder"])

    def test_in_the_lands_order(self):
        land = Land(FIELDS[::-1], DYKES)
        self.assertEqual(flooded(land, [], TOP), ["mill", "polder", "marsh"])

    def test_fields_with_no_way_are_never_flooded(self):
        self.assertEqual(flooded(cut_off(), ["x", "y"], TOP), ["a", "b"])

    def test_lowest_and_highest_levels(self):
        for height in [-TOP, TOP]:
            land = Land([("a", height, 0)], [("b", "a", "sea", height, 0, None)])
            self.assertEqual(flooded(land, [], height), [])
        self.assertEqual(flooded(Land([("a", -TOP, 0)], [("b", "a", "sea", -TOP, 0, None)]), [], 1 - TOP), ["a"])

    def test_just_where_the_sea_stands_above_the_flood_height(self):
        for seed in range(120):
            land = some_land(seed)
            for opened in sets_of_sluices(land)[:6]:
                least = floods_by_hand(land, opened)
                for level in range(-8, 9):
                    below = [name for name in land.field_names() if least[name] is not None and least[name] < level]
                    self.assertEqual(flooded(land, opened, level), below)


class TestNoSluice(unittest.TestCase):
    def assert_no_sluice(self, opened):
        land = sample()
        assert_refused(self, NoSluice, way_to, land, opened, "mill")
        assert_refused(self, NoSluice, way_height, land, opened, "mill", ["west", "lock"])
        assert_refused(self, NoSluice, ring_round, land, opened, "mill")
        assert_refused(self, NoSluice, kept_out, land, opened, ["mill"])
        assert_refused(self, NoSluice, flooded, land, opened, 5)

    def test_anything_else(self):
        for thing in ANYTHING + ["gate", ("gate",), {"gate": -2}, {"gate"}, ["gate", "west"], ["mill"], ["gate", None]]:
            if not (type(thing) is list and thing == []):
                self.assert_no_sluice(thing)

    def test_ahead_of_all_else(self):
        for opened in [["west"], None, ("gate",), ["gate", "zz"]]:
            for thing in ANYTHING + [["west"], ["lock"]]:
                assert_refused(self, NoSluice, way_height, sample(), opened, "mill", thing)
                assert_refused(self, NoSluice, kept_out, sample(), opened, thing)
            for thing in ["zz", "sea", "west"]:
                assert_refused(self, NoSluice, way_to, sample(), opened, thing)
                assert_refused(self, NoSluice, way_height, sample(), opened, thing, ["west"])
                assert_refused(self, NoSluice, ring_round, sample(), opened, thing)
            for thing in [TOP + 1, None, "5"]:
                assert_refused(self, NoSluice, flooded, sample(), opened, thing)


class TestOwnValues(unittest.TestCase):
    def test_nothing_handed_in_is_changed(self):
        land, opened, way, ring = sample(), ["lock", "gate", "lock"], ["west", "lock"], ["mill", "marsh"]
        way_to(land, opened, "mill")
        way_height(land, opened, "mill", way)
        ring_round(land, opened, "mill")
        kept_out(land, opened, ring)
        flooded(land, opened, 5)
        self.assertEqual((opened, way, ring), (["lock", "gate", "lock"], ["west", "lock"], ["mill", "marsh"]))
        self.assertEqual((land.fields(), land.dykes()), (FIELDS, DYKES))

    def test_told_lists_are_the_askers_own(self):
        land, opened = sample(), ["gate"]
        asks = [lambda: way_to(land, opened, "mill"), lambda: ring_round(land, opened, "mill"),
                lambda: flooded(land, opened, TOP)]
        for ask in asks:
            first, kept = ask(), ask()
            before = list(kept)
            first.clear()
            opened.append("lock")
            self.assertEqual(kept, before)
            opened.remove("lock")
            self.assertEqual(ask(), before)
        self.assertEqual((land.fields(), land.dykes()), (FIELDS, DYKES))


if __name__ == "__main__":
    unittest.main()
