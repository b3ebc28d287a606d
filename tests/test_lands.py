"""Whole numbers, names, heights [0.2] and lands [1.1, 1.2]."""

import unittest

from dykemoot.errors import NoLand, NoWork
from dykemoot.lands import Land, is_height, is_name, is_whole
from tests.helper import ANYTHING, DYKES, FIELDS, assert_refused, letters, sample, some_land, widest


def replaced(row, place, thing):
    return row[:place] + (thing,) + row[place + 1:]


def whole(thing):
    return type(thing) is int


class TestKinds(unittest.TestCase):
    def test_whole_numbers(self):
        for thing in [0, 1, -1, 10 ** 6, -10 ** 6, 10 ** 399]:
            self.assertIs(is_whole(thing), True, thing)

    def test_truths_and_all_else_are_no_whole_numbers(self):
        for thing in ANYTHING:
            self.assertIs(is_whole(thing), whole(thing), repr(thing))

    def test_names(self):
        for thing in ["a", "z", "marsh", "abcdefgh", "qrstuvwx", "yz", "se", "seas", "eas", "field", "dyke", "none"]:
            self.assertIs(is_name(thing), True, thing)

    def test_texts_that_are_no_names(self):
        for thing in ["", "sea", "abcdefghi", "A", "Marsh", "maRsh", "a1", "1", "a b", " a", "a ", "a\n", "\n",
                      "a-b", "a_b", "a.", "\u00e9", "\u0430", "\uff41", "\u00df", "\u0000", "`", "{", "a{"]:
            self.assertIs(is_name(thing), False, repr(thing))

    def test_other_kinds_are_no_names(self):
        for thing in ANYTHING:
            self.assertIs(is_name(thing), isinstance(thing, str) and thing in ("a", "zz"), repr(thing))

    def test_heights(self):
        for thing in [0, 1, -1, 10 ** 6, -10 ** 6, 10 ** 6 - 1, 1 - 10 ** 6]:
            self.assertIs(is_height(thing), True, thing)
        for thing in [10 ** 6 + 1, -10 ** 6 - 1, 10 ** 399, -10 ** 399]:
            self.assertIs(is_height(thing), False, thing)

    def test_other_kinds_are_no_heights(self):
        for thing in ANYTHING:
            self.assertIs(is_height(thing), whole(thing) and thing in (0, 1, -1), repr(thing))


class TestLand(unittest.TestCase):
    def test_tells_fields_and_dykes_in_order(self):
        land = sample()
        self.assertEqual(land.fields(), FIELDS)
        self.assertEqual(land.dykes(), DYKES)
        self.assertEqual(land.field_names(), ["marsh", "polder", "mill"])
        self.assertEqual(land.dyke_names(), ["west", "gate", "marsh", "lock"])
        self.assertEqual(land.sluices(), ["gate", "marsh", "lock"])

    def test_tells_one_field_and_one_dyke(self):
        land = sample()
        for name, ground, dues in FIELDS:
            self.assertEqual(land.ground(name), ground)
            self.assertEqual(land.dues(name), dues)
        for row in DYKES:
            self.assertEqual(land.dyke(row[0]), row)
            self.assertIsInstance(land.dyke(row[0]), tuple)

    def test_tells_lists_of_tuples(self):
        land = sample()
        for told in [land.fields(), land.dykes(), land.field_names(), land.dyke_names(), land.sluices()]:
            self.assertIs(type(told), list)
        self.assertTrue(all(type(row) is tuple for row in land.fields() + land.dykes()))

    def test_smallest_land(self):
        land = Land([("a", 0, 0)], [("a", "a", "sea", 0, 0, None)])
        self.assertEqual(land.fields(), [("a", 0, 0)])
        self.assertEqual(land.dykes(), [("a", "a", "sea", 0, 0, None)])
        self.assertEqual(land.sluices(), [])

    def test_widest_land(self):
        land = widest()
        self.assertEqual((len(land.fields()), len(land.dykes())), (12, 40))
        self.assertEqual(land.field_names(), [letters(place) for place in range(12)])
        self.assertEqual(land.dyke_names(), [letters(39 - place) for place in range(40)])
        self.assertEqual(land.sluices(), land.dyke_names())

    def test_order_is_the_told_one_not_that_of_names(self):
        land = Land(FIELDS[::-1], DYKES[::-1])
        self.assertEqual(land.field_names(), ["mill", "polder", "marsh"])
        self.assertEqual(land.dyke_names(), ["lock", "marsh", "gate", "west"])
        self.assertEqual(land.sluices(), ["lock", "marsh", "gate"])

    def test_many_lands_tell_what_they_were_made_of(self):
        for seed in range(100):
            land = some_land(seed, 12, 40)
            again = Land(land.fields(), land.dykes())
            self.assertEqual((again.fields(), again.dykes()), (land.fields(), land.dykes()))

    def test_edges_of_numbers_and_names(self):
        top = 10 ** 6
        fields = [("a", top, top), ("abcdefgh", -top, 0)]
        dykes = [("z", "a", "sea", top, top, top - 1), ("stuvwxyz", "sea", "abcdefgh", 1 - top, 0, -top),
                 ("low", "abcdefgh", "a", -top, 0, None), ("a", "a", "abcdefgh", 0, 1, -top)]
        land = Land(fields, dykes)
        self.assertEqual((land.fields(), land.dykes()), (fields, dykes))

    def test_several_dykes_between_the_same_sides(self):
        dykes = [("a", "sea", "mill", 1, 1, None), ("b", "mill", "sea", 1, 1, None), ("c", "sea", "mill", 1, 1, 0)]
        self.assertEqual(Land(FIELDS, dykes).dykes(), dykes)

    def test_a_land_without_a_dyke_at_the_sea(self):
        dykes = [("a", "marsh", "mill", 1, 1, None)]
        self.assertEqual(Land(FIELDS, dykes).dykes(), dykes)


class TestNoLand(unittest.TestCase):
    def assert_no_land(self, fields, dykes):
        assert_refused(self, NoLand, Land, fields, dykes)

    def test_fields_of_any_other_kind(self):
        for thing in ANYTHING + [tuple(FIELDS), dict((row[0], row) for row in FIELDS), set(FIELDS)]:
            self.assert_no_land(thing, list(DYKES))

    def test_dykes_of_any_other_kind(self):
        for thing in ANYTHING + [tuple(DYKES), dict((row[0], row) for row in DYKES), set(DYKES)]:
            self.assert_no_land(list(FIELDS), thing)

    def test_one_field_of_any_other_kind(self):
        for thing in ANYTHING:
            if not (type(thing) is tuple and thing == ("a", 0, 0)):
                for place in range(3):
                    self.assert_no_land(FIELDS[:place] + [thing] + FIELDS[place:], list(DYKES))

    def test_one_dyke_of_any_other_kind(self):
        for thing in ANYTHING:
            for place in range(4):
                self.assert_no_land(list(FIELDS), DYKES[:place] + [thing] + DYKES[place:])

    def test_rows_that_are_lists_or_too_long_or_too_short(self):
        for wrong in [list(FIELDS[1]), FIELDS[1][:2], FIELDS[1] + (0,), FIELDS[1] + (None,)]:
            self.assert_no_land([FIELDS[0], wrong, FIELDS[2]], list(DYKES))
        for wrong in [list(DYKES[1]), DYKES[1][:5], DYKES[1] + (0,), DYKES[1] + (None,)]:
            self.assert_no_land(list(FIELDS), [DYKES[0], wrong, DYKES[2]])

    def test_wrong_parts_of_a_field(self):
        fits = [lambda thing: type(thing) is str and thing in ("a", "zz"),
                lambda thing: whole(thing) and thing in (0, 1, -1),
                lambda thing: whole(thing) and thing in (0, 1)]
        for place, fit in enumerate(fits):
            for thing in ANYTHING:
                fields = [replaced(("last", 0, 0), place, thing)]
                if fit(thing):
                    self.assertEqual(Land(FIELDS + fields, DYKES).fields(), FIELDS + fields)
                else:
                    self.assert_no_land(FIELDS + fields, list(DYKES))

    def test_wrong_parts_of_a_dyke(self):
        fits = [lambda thing: type(thing) is str and thing in ("a", "zz"),
                lambda thing: type(thing) is str and thing == "sea",
                lambda thing: type(thing) is str and thing == "sea",
                lambda thing: whole(thing) and thing in (0, 1, -1),
                lambda thing: whole(thing) and thing in (0, 1),
                lambda thing: thing is None or whole(thing) and thing == -1]
        for place, fit in enumerate(fits):
            for thing in ANYTHING:
                dykes = [replaced(("last", "marsh", "mill", 0, 0, None), place, thing)]
                if fit(thing):
                    self.assertEqual(Land(FIELDS, DYKES + dykes).dykes(), DYKES + dykes)
                else:
                    self.assert_no_land(list(FIELDS), DYKES + dykes)

    def test_one_beyond_the_bounds_of_a_field(self):
        for wrong in [("abcdefghi", 0, 0), ("sea", 0, 0), ("", 0, 0), ("a", 10 ** 6 + 1, 0), ("a", -10 ** 6 - 1, 0),
                      ("a", 0, -1), ("a", 0, 10 ** 6 + 1), ("a", True, 0), ("a", 0, False)]:
            self.assert_no_land(FIELDS + [wrong], list(DYKES))

    def test_one_beyond_the_bounds_of_a_dyke(self):
        for wrong in [("abcdefghi", "sea", "mill", 0, 0, None), ("sea", "sea", "mill", 0, 0, None),
                      ("a", "sea", "mill", 10 ** 6 + 1, 0, None), ("a", "sea", "mill", -10 ** 6 - 1, 0, None),
                      ("a", "sea", "mill", 0, -1, None), ("a", "sea", "mill", 0, 10 ** 6 + 1, None),
                      ("a", "sea", "mill", -10 ** 6, 0, -10 ** 6 - 1), ("a", "sea", "mill", 0, 0, -10 ** 6 - 1),
                      ("a", "sea", "mill", True, 0, None), ("a", "sea", "mill", 5, True, None),
                      ("a", "sea", "mill", 5, 0, False)]:
            self.assert_no_land(list(FIELDS), DYKES + [wrong])

    def test_a_sill_is_below_the_crown(self):
        for crown in [-3, 0, 7, 10 ** 6, 1 - 10 ** 6]:
            Land(FIELDS, [("a", "sea", "mill", crown, 0, crown - 1)])
            self.assert_no_land(list(FIELDS), [("a", "sea", "mill", crown, 0, crown)])
            self.assert_no_land(list(FIELDS), [("a", "sea", "mill", crown, 0, crown + 1)])

    def test_sides_are_unlike_and_of_the_land(self):
        for one, other in [("mill", "mill"), ("sea", "sea"), ("mill", "west"), ("west", "mill"), ("mill", "nowhere"),
                           ("nowhere", "sea"), ("mill", "Sea"), ("mil", "sea"), ("", "sea"), ("mill", "")]:
            self.assert_no_land(list(FIELDS), DYKES + [("last", one, other, 0, 0, None)])

    def test_no_name_twice(self):
        for name in ["marsh", "polder", "mill"]:
            self.assert_no_land(FIELDS + [(name, 0, 0)], list(DYKES))
        for name in ["west", "gate", "marsh", "lock"]:
            self.assert_no_land(list(FIELDS), DYKES + [(name, "sea", "mill", 0, 0, None)])

    def test_counts_of_fields_and_dykes(self):
        fields = widest().fields()
        dykes = widest().dykes()
        self.assert_no_land(fields + [("last", 0, 0)], dykes)
        self.assert_no_land(fields, dykes + [("last", "sea", "a", 0, 0, None)])
        self.assert_no_land([], dykes)
        self.assert_no_land([], [])
        self.assert_no_land(fields, [])


class TestRaised(unittest.TestCase):
    def test_crowns_are_the_told_ones(self):
        land = sample().raised([("lock", 8), ("gate", 10)])
        self.assertIsInstance(land, Land)
        self.assertEqual(land.fields(), FIELDS)
        self.assertEqual(land.dykes(), [
            ("west", "sea", "marsh", 4, 10, None),
            ("gate", "polder", "sea", 10, 0, -2),
            ("marsh", "marsh", "polder", 6, 3, 5),
            ("lock", "mill", "marsh", 8, 1, 2),
        ])
        self.assertEqual(land.sluices(), ["gate", "marsh", "lock"])
        self.assertEqual(land.dyke("lock"), ("lock", "mill", "marsh", 8, 1, 2))

    def test_the_land_itself_stays(self):
        land = sample()
        land.raised([("lock", 8), ("gate", 10)])
        self.assertEqual((land.fields(), land.dykes()), (FIELDS, DYKES))

    def test_raised_more_than_once(self):
        once = sample().raised([("west", 5)])
        twice = once.raised([("west", 6), ("marsh", 7)])
        self.assertEqual([row[3] for row in once.dykes()], [5, 9, 6, 3])
        self.assertEqual([row[3] for row in twice.dykes()], [6, 9, 7, 3])
        assert_refused(self, NoWork, twice.raised, [("west", 5)])

    def test_by_no_works_and_to_the_crown_itself(self):
        for works in [[], [("west", 4)], [(row[0], row[3]) for row in DYKES]]:
            self.assertEqual(sample().raised(works).dykes(), DYKES)

    def test_up_to_the_greatest_height(self):
        land = sample().raised([(name, 10 ** 6) for name in sample().dyke_names()])
        self.assertEqual([row[3] for row in land.dykes()], [10 ** 6] * 4)
        assert_refused(self, NoWork, land.raised, [("west", 10 ** 6 + 1)])

    def test_all_dykes_of_a_wide_land(self):
        land = widest()
        works = [(row[0], row[3] + row[4]) for row in land.dykes()]
        self.assertEqual([(row[0], row[3]) for row in land.raised(works[::-1]).dykes()], works)

    def assert_no_work(self, works):
        land = sample()
        assert_refused(self, NoWork, land.raised, works)
        self.assertEqual((land.fields(), land.dykes()), (FIELDS, DYKES))

    def test_works_of_any_other_kind(self):
        for thing in ANYTHING + [(("west", 5),), {"west": 5}, {("west", 5)}]:
            if not (type(thing) is list and thing == []):
                self.assert_no_work(thing)

    def test_one_work_of_any_other_kind(self):
        for thing in ANYTHING + [["west", 5], ("west",), ("west", 5, 5), ("west", 5, None)]:
            self.assert_no_work([("gate", 10), thing])
            self.assert_no_work([thing, ("gate", 10)])

    def test_wrong_parts_of_a_work(self):
        for thing in ANYTHING + ["mill", "polder", "wes", "West"]:
            self.assert_no_work([("gate", 10), (thing, 10)])
        for thing in ANYTHING + [3, 4.0, "5", True, 10 ** 6 + 1]:
            self.assert_no_work([("gate", 10), ("west", thing)])

    def test_one_lower_than_the_crown(self):
        for row in DYKES:
            self.assert_no_work([(row[0], row[3] - 1)])

    def test_a_dyke_that_comes_twice(self):
        self.assert_no_work([("west", 5), ("west", 5)])
        self.assert_no_work([("west", 5), ("gate", 10), ("west", 6)])


class TestOwnLists(unittest.TestCase):
    def test_what_was_handed_in_is_not_changed(self):
        fields, dykes, works = list(FIELDS), list(DYKES), [("gate", 10), ("west", 5)]
        Land(fields, dykes).raised(works)
        self.assertEqual((fields, dykes, works), (FIELDS, DYKES, [("gate", 10), ("west", 5)]))

    def test_lists_changed_behind_change_no_land(self):
        fields, dykes, works = list(FIELDS), list(DYKES), [("west", 5)]
        land = Land(fields, dykes)
        raised = land.raised(works)
        fields.reverse()
        dykes[0] = ("other", "sea", "mill", 1, 1, None)
        works.append(("gate", 10))
        self.assertEqual((land.fields(), land.dykes()), (FIELDS, DYKES))
        self.assertEqual(raised.dykes(), [replaced(DYKES[0], 3, 5)] + DYKES[1:])

    def test_told_lists_are_the_askers_own(self):
        land = sample()
        raised = land.raised([])
        for told in [land.fields(), land.dykes(), land.field_names(), land.dyke_names(), land.sluices(),
                     raised.fields(), raised.dykes()]:
            told.reverse()
            told.append(None)
        for each in [land, raised]:
            self.assertEqual((each.fields(), each.dykes()), (FIELDS, DYKES))
            self.assertEqual(each.field_names(), ["marsh", "polder", "mill"])
            self.assertEqual(each.dyke_names(), ["west", "gate", "marsh", "lock"])
            self.assertEqual(each.sluices(), ["gate", "marsh", "lock"])
            self.assertEqual((each.ground("mill"), each.dues("mill")), (5, 1000000))

    def test_what_was_told_stays_as_it_was(self):
        land = sample()
        told = land.dykes()
        land.raised([("west", 5)])
        land.dykes().append(None)
        self.assertEqual(told, DYKES)


if __name__ == "__main__":
    unittest.main()
