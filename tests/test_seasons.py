"""Seasons: days one by one and told together, wet fields, and seasons that are led on [6.1, 6.2]."""

import copy
import unittest

from dykemoot.decrees import opened_by
from dykemoot.errors import NoDecree, NoLevel
from dykemoot.lands import Land
from dykemoot.seasons import Season
from tests.helper import (ANYTHING, DYKES, FIELDS, Numbers, assert_refused, day_by_hand, sample, some_decrees,
                          some_land, widest)

TOP = 10 ** 6
ALWAYS = ("always",)


def told(season):
    """All that a season tells."""
    return (season.opened(), season.wet(), season.count(), list(season.wet_days().items()))


def one_field(ground, crown, sill=None):
    return Land([("a", ground, 0)], [("b", "sea", "a", crown, 0, sill)])


def with_crowns(land, crowns):
    rows = [row[:3] + (crowns.get(row[0], row[3]),) + row[4:] for row in land.dykes()]
    return Land(land.fields(), rows)


class TestDays(unittest.TestCase):
    def test_at_first(self):
        season = Season(sample(), [("open", "gate", [ALWAYS])])
        self.assertEqual(told(season), ([], [], 0, [("marsh", 0), ("polder", 0), ("mill", 0)]))

    def test_a_day_tells_sluices_and_wet_fields(self):
        season = Season(sample(), [("open", "gate", [("above", 2)])])
        answer = season.day(3)
        self.assertEqual(answer, (["gate"], ["polder"]))
        self.assertIs(type(answer), tuple)
        self.assertEqual([type(part) for part in answer], [list, list])
        self.assertEqual(told(season), (["gate"], ["polder"], 1, [("marsh", 0), ("polder", 1), ("mill", 0)]))

    def test_days_of_rising_and_falling_water(self):
        season = Season(sample(), [])
        days = [(4, []), (5, ["marsh"]), (6, ["marsh", "mill"]), (7, ["marsh", "polder", "mill"]),
                (5, ["marsh", "polder"]), (-TOP, ["marsh", "polder"]), (6, ["marsh", "polder", "mill"])]
        for level, wet in days:
            self.assertEqual(season.day(level), ([], wet))
            self.assertEqual((season.opened(), season.wet()), ([], wet))
        self.assertEqual(season.count(), 7)
        self.assertEqual(list(season.wet_days().items()), [("marsh", 6), ("polder", 4), ("mill", 3)])

    def test_decrees_look_at_this_days_level(self):
        season = Season(sample(), [("open", "gate", [("above", 5)]), ("shut", "gate", [("below", 5)])])
        self.assertEqual([season.day(level)[0] for level in [5, 6, 5, 4, 5]], [[], ["gate"], ["gate"], [], []])

    def test_decrees_look_at_the_fields_that_were_wet_the_day_before(self):
        season = Season(sample(), [("open", "lock", [("wet", "marsh")])])
        self.assertEqual(season.day(5), ([], ["marsh"]))
        self.assertEqual(season.day(-5), (["lock"], ["marsh"]))
        season = Season(sample(), [("open", "gate", [("dry", "polder")]), ("shut", "gate", [("wet", "polder")])])
        self.assertEqual(season.days([3, 3, 3]), [(["gate"], ["polder"]), ([], ["polder"]), ([], ["polder"])])

    def test_the_first_day_has_the_number_nought(self):
        season = Season(sample(), [("open", "gate", [("day", 0, 3)]), ("shut", "gate", [("day", 1, 3)])])
        self.assertEqual([season.day(0)[0] for day in range(7)], [["gate"], [], [], ["gate"], [], [], ["gate"]])
        season = Season(sample(), [("open", "gate", [("day", 0, 100)]), ("shut", "gate", [("day", 99, 100)])])
        opened = [season.day(0)[0] for day in range(101)]
        self.assertEqual(opened, [["gate"]] * 99 + [[], ["gate"]])

    def test_the_sluices_that_are_open_now_count(self):
        season = Season(one_field(0, 9, 3), [("open", "b", [("day", 1, 3)]), ("shut", "b", [("day", 2, 3)])])
        self.assertEqual([season.day(4) for day in range(3)], [([], []), (["b"], ["a"]), ([], ["a"])])

    def test_told_in_the_lands_orders(self):
        land = Land(FIELDS[::-1], DYKES[::-1])
        season = Season(land, [("open", "gate", [ALWAYS]), ("open", "lock", [ALWAYS]), ("open", "marsh", [ALWAYS])])
        self.assertEqual(season.day(TOP), (["lock", "marsh", "gate"], ["mill", "polder", "marsh"]))
        self.assertEqual(list(season.wet_days()), ["mill", "polder", "marsh"])

    def test_a_field_that_has_no_way_is_never_wet(self):
        land = Land([("a", 0, 0), ("b", 0, 0)], [("x", "sea", "a", 1, 0, None)])
        season = Season(land, [])
        self.assertEqual(season.days([TOP, 0, 1]), [([], ["a"]), ([], ["a"]), ([], ["a"])])
        self.assertEqual(season.wet_days(), {"a": 3, "b": 0})

    def test_levels_at_and_beside_the_flood_height(self):
        for level, wet in [(4, []), (5, []), (6, ["a"])]:
            self.assertEqual(Season(one_field(0, 5), []).day(level), ([], wet))

    def test_lowest_and_highest_levels(self):
        self.assertEqual(Season(one_field(TOP, TOP), []).day(TOP), ([], []))
        season = Season(one_field(-TOP, -TOP), [])
        self.assertEqual(season.days([-TOP, 1 - TOP, -TOP]), [([], []), ([], ["a"]), ([], [])])


class TestFallsDry(unittest.TestCase):
    def test_where_the_flood_height_is_its_own_ground(self):
        for ground in [-TOP, -7, 0, 7, TOP - 2]:
            for crown in [ground, max(ground - 3, -TOP)]:
                land = one_field(ground, crown)
                for level, wet in [(ground - 1, []), (ground, []), (ground + 1, ["a"])]:
                    if level >= -TOP:
                        season = Season(land, [])
                        self.assertEqual(season.day(ground + 2), ([], ["a"]))
                        self.assertEqual(season.day(level), ([], wet), (ground, crown, level))

    def test_where_the_flood_height_is_above_its_ground_it_stays_wet(self):
        for level in [-TOP, 0, 4, 5, 6]:
            season = Season(one_field(4, 5), [])
            season.day(6)
            self.assertEqual(season.day(level), ([], ["a"]))
            self.assertEqual(season.day(-TOP), ([], ["a"]))

    def test_where_a_higher_ground_lies_on_the_way_it_stays_wet(self):
        fields = [("far", 2, 0), ("near", 3, 0)]
        land = Land(fields, [("x", "sea", "near", 1, 0, None), ("y", "near", "far", 1, 0, None)])
        self.assertEqual(Season(land, []).days([4, 3, 2, -5]), [([], ["far", "near"])] + [([], ["far"])] * 3)

    def test_by_a_sluice_that_is_opened(self):
        land = one_field(2, 9, 1)
        season = Season(land, [("open", "b", [("day", 2, 4)]), ("shut", "b", [("day", 3, 4)])])
        self.assertEqual(season.days([10, 1, 1, 1, 1]), [([], ["a"]), ([], ["a"]), (["b"], []), ([], []), ([], [])])
        season = Season(one_field(2, 9, 3), [("open", "b", [("day", 1, 2)])])
        self.assertEqual(season.days([10, 1]), [([], ["a"]), (["b"], ["a"])])

    def test_the_level_stands_at_the_ground_of_an_open_sluice(self):
        for level, wet in [(1, []), (2, []), (3, ["a"])]:
            season = Season(one_field(2, 9, 2), [("open", "b", [("day", 1, 2)])])
            self.assertEqual(season.days([10, level]), [([], ["a"]), (["b"], wet)])

    def test_a_field_that_is_dry_stays_dry(self):
        self.assertEqual(Season(one_field(4, 5), []).days([5, 4, 3]), [([], [])] * 3)
        self.assertEqual(Season(one_field(4, 4), []).days([4, 3]), [([], [])] * 2)


class TestPlainReading(unittest.TestCase):
    def test_many_seasons(self):
        for seed in range(250):
            land, numbers = some_land(seed, 5, 8), Numbers(seed)
            decrees = some_decrees(seed, land, 10)
            season, now, wet_days = Season(land, decrees), ([], []), dict.fromkeys(land.field_names(), 0)
            for day in range(12):
                level = numbers.between(-8, 8)
                now = day_by_hand(land, decrees, now, level, day)
                for field in now[1]:
                    wet_days[field] += 1
                self.assertEqual(season.day(level), now, (seed, day))
                self.assertEqual(told(season), (now[0], now[1], day + 1, list(wet_days.items())))

    def test_told_together(self):
        for seed in range(100):
            land, numbers = some_land(seed), Numbers(seed)
            one, other = Season(land, some_decrees(seed, land)), Season(land, some_decrees(seed, land))
            for part in range(3):
                levels = [numbers.between(-8, 8) for day in range(numbers.below(6))]
                self.assertEqual(one.days(levels), [other.day(level) for level in levels])
                self.assertEqual(told(one), told(other))

    def test_no_days_told_together(self):
        season = Season(sample(), [("open", "gate", [ALWAYS])])
        self.assertEqual(season.days([]), [])
        self.assertEqual(told(season), ([], [], 0, [("marsh", 0), ("polder", 0), ("mill", 0)]))

    def test_sixty_decrees_on_the_widest_land(self):
        land = widest()
        decrees = [(["open", "shut"][place % 2], land.dyke_names()[place % 40], [("day", place % 7, 7)] * 6)
                   for place in range(60)]
        season, now = Season(land, decrees), ([], [])
        for day in range(3):
            opened = opened_by(land, decrees, now[0], 105, now[1], day)
            now = season.day(105)
            self.assertEqual(now[0], opened)


class TestNoDecree(unittest.TestCase):
    def test_anything_else(self):
        decree = ("open", "gate", [ALWAYS])
        for thing in ANYTHING + [(decree,), decree, list(decree), {"a": decree}, "open gate when always", [decree] * 61,
                                 [("open", "west", [ALWAYS])], [("open", "gate", [])], [("open", "gate", [ALWAYS] * 7)],
                                 [decree, None], [("open", "gate", [("day", 1, 1)])], [("open", "gate", (ALWAYS,))]]:
            if not (type(thing) is list and thing == []):
                assert_refused(self, NoDecree, Season, sample(), thing)

    def test_none_and_sixty(self):
        for count in [0, 1, 60]:
            self.assertEqual(Season(sample(), [("open", "gate", [ALWAYS])] * count).count(), 0)


class TestNoLevel(unittest.TestCase):
    def begun(self):
        decrees = [("open", "gate", [("above", 4)]), ("shut", "gate", [("below", 2)]),
                   ("open", "lock", [("day", 4, 5)])]
        season = Season(sample(), decrees)
        season.days([0, 5, 3])
        return season

    def assert_no_level(self, method, thing):
        season = self.begun()
        before = told(season)
        assert_refused(self, NoLevel, getattr(season, method), thing)
        self.assertEqual(told(season), before)
        self.assertEqual([season.day(level) for level in [1, 6]], self.begun().days([1, 6]))

    def test_a_level_that_is_no_height(self):
        for thing in ANYTHING + [TOP + 1, -TOP - 1, 10 ** 399, "5", [5], (5,), {5: 5}, 5.0]:
            if not (type(thing) is int and abs(thing) <= TOP):
                self.assert_no_level("day", thing)

    def test_a_level_that_is_no_height_among_others(self):
        for thing in ANYTHING + [TOP + 1, -TOP - 1, 10 ** 399, "5", [5], (5,), {5: 5}, 5.0]:
            if not (type(thing) is int and abs(thing) <= TOP):
                for levels in [[thing], [thing, 6], [6, thing], [6, 0, thing, 7]]:
                    self.assert_no_level("days", levels)

    def test_what_is_no_list_of_levels(self):
        for thing in ANYTHING + [5, (5,), (5, 6), {5: 6}, {5}, "5", range(3)]:
            if not (type(thing) is list and thing in ([], [0])):
                self.assert_no_level("days", thing)

    def test_at_first(self):
        season = Season(sample(), [("open", "gate", [("day", 0, 2)])])
        assert_refused(self, NoLevel, season.day, TOP + 1)
        assert_refused(self, NoLevel, season.days, [0, TOP + 1])
        self.assertEqual(season.count(), 0)
        self.assertEqual(season.day(0), (["gate"], []))


class TestOnto(unittest.TestCase):
    def test_has_all_of_the_first_one(self):
        season = Season(sample(), [("open", "gate", [("above", 4)]), ("shut", "gate", [("day", 4, 5)])])
        season.days([0, 5, 3])
        led = season.onto(with_crowns(sample(), {"west": 20}))
        self.assertIsInstance(led, Season)
        self.assertEqual(told(led), told(season))
        self.assertEqual(told(led), (["gate"], ["marsh", "polder"], 3, [("marsh", 2), ("polder", 2), ("mill", 0)]))

    def test_goes_on_by_the_new_crowns_with_the_same_decrees_and_numbers(self):
        season = Season(sample(), [("open", "lock", [("day", 2, 5)]), ("shut", "lock", [("day", 3, 5)])])
        season.days([0, 0])
        higher = season.onto(with_crowns(sample(), {"west": 20, "marsh": 20}))
        lower = season.onto(with_crowns(sample(), {"west": -3, "lock": 4}))
        self.assertEqual(higher.days([8, 8]), [(["lock"], []), ([], [])])
        self.assertEqual(lower.days([0, 8]), [(["lock"], ["marsh"]), ([], ["marsh", "polder", "mill"])])
        self.assertEqual(season.days([5, 0]), [(["lock"], ["marsh"]), ([], ["marsh"])])
        self.assertEqual(season.wet_days(), {"marsh": 2, "polder": 0, "mill": 0})

    def test_the_first_one_stays_as_it_is_and_so_does_the_new_one(self):
        season = Season(sample(), [("open", "gate", [("above", 4)])])
        season.days([0, 5])
        led = season.onto(sample().raised([("west", 30)]))
        before = told(season)
        led.days([40, 40])
        self.assertEqual(told(season), before)
        led = season.onto(sample().raised([("west", 30)]))
        season.days([40, 40])
        self.assertEqual(told(led), before)

    def test_water_stays_behind_a_raised_dyke_and_runs_off_over_a_lowered_one(self):
        season = Season(one_field(2, 2), [])
        season.day(5)
        self.assertEqual(season.onto(one_field(2, 3)).day(0), ([], ["a"]))
        self.assertEqual(season.onto(one_field(2, 1)).day(0), ([], []))
        self.assertEqual(season.onto(one_field(2, 3)).onto(one_field(2, 2)).day(2), ([], []))

    def test_led_on_before_the_first_day(self):
        led = Season(sample(), [("open", "gate", [("day", 0, 2)])]).onto(sample())
        self.assertEqual(led.count(), 0)
        self.assertEqual(led.day(3), (["gate"], ["polder"]))

    def test_many(self):
        for seed in range(100):
            land, numbers = some_land(seed, 5, 8), Numbers(seed)
            decrees = some_decrees(seed, land, 10)
            season, now = Season(land, decrees), ([], [])
            for day in range(8):
                sills = dict((row[0], row[5]) for row in land.dykes())
                crowns = dict((name, (-8 if sill is None else sill) + numbers.between(1, 9))
                              for name, sill in sills.items())
                land = with_crowns(land, crowns)
                season = season.onto(land)
                level = numbers.between(-8, 8)
                now = day_by_hand(land, decrees, now, level, day)
                self.assertEqual(season.day(level), now, (seed, day))
                self.assertEqual(season.count(), day + 1)


class TestOwnValues(unittest.TestCase):
    def test_nothing_handed_in_is_changed(self):
        land, decrees, levels = sample(), [("open", "gate", [("above", 4), ("dry", "mill")])], [5, 3, 7]
        season = Season(land, decrees)
        season.days(levels)
        season.onto(land).days(levels)
        self.assertEqual((decrees, levels), ([("open", "gate", [("above", 4), ("dry", "mill")])], [5, 3, 7]))
        self.assertEqual((land.fields(), land.dykes()), (FIELDS, DYKES))

    def test_decrees_changed_behind_change_no_season(self):
        decrees = [("open", "gate", [("above", 4)]), ("shut", "gate", [("day", 2, 3)])]
        as_they_were = copy.deepcopy(decrees)
        season = Season(sample(), decrees)
        led = season.onto(sample())
        decrees[0][2].append(("below", 0))
        decrees[0][2][0] = ("above", 100)
        decrees.pop()
        for each in [season, led, season.onto(sample())]:
            self.assertEqual(each.days([5, 5, 5]), Season(sample(), as_they_were).days([5, 5, 5]))
            self.assertEqual(each.opened(), [])

    def test_told_lists_and_dicts_are_the_askers_own(self):
        season = Season(sample(), [("open", "gate", [ALWAYS])])
        season.day(0)
        day, days = season.day(5), season.days([6, 6])
        kept = copy.deepcopy((day, days))
        before = told(season)
        for part in [season.opened(), season.wet(), season.wet_days()]:
            part.clear()
        season.wet_days()["mill"] = 100
        season.opened().append("lock")
        self.assertEqual(told(season), before)
        season.day(-5)
        self.assertEqual((day, days), kept)
        before = told(season)
        for part in [day, days[0], days[1]]:
            part[0].append("lock")
            part[1].clear()
        days.clear()
        self.assertEqual(told(season), before)
        last = season.day(7)
        last[0].clear()
        last[1].clear()
        self.assertEqual((season.opened(), season.wet()), (["gate"], ["marsh", "polder", "mill"]))

    def test_what_was_told_stays_as_it_was(self):
        season = Season(sample(), [("open", "gate", [ALWAYS])])
        opened, wet, wet_days = season.opened(), season.wet(), season.wet_days()
        season.day(TOP)
        self.assertEqual((opened, wet, wet_days), ([], [], {"marsh": 0, "polder": 0, "mill": 0}))


if __name__ == "__main__":
    unittest.main()
