"""What holds over the whole program: own values and refusals [0.2], and the promise [0.4]."""

import copy
import unittest
from fractions import Fraction

from dykemoot.coins import coins_of, fewest, keeps, paper_for
from dykemoot.companies import companies, cost, saved
from dykemoot.decrees import are_decrees, holds, opened_by, read_decrees, show_decrees
from dykemoot.desk import Desk
from dykemoot.errors import (DykeError, NoLand, NoLevel, NoName, NoPurse, NoRing, NoRow, NoSluice, NoText, NoVoice,
                             NoWay, NoWish, NoWork, Outvoted, Short, TooMany)
from dykemoot.floods import flood_heights, stands
from dykemoot.lands import Land
from dykemoot.moots import Moot
from dykemoot.rings import flooded, kept_out, ring_round, way_height, way_to
from dykemoot.seasons import Season
from dykemoot.shares import fraction, less, minus, plus, shares
from dykemoot.texts import read_land, show_land
from tests.helper import DYKES, FIELDS, Numbers, sample, sets_of_sluices, some_decrees, some_land, widest

DECREES = [("open", "gate", [("above", 4), ("dry", "mill")]), ("shut", "gate", [("day", 2, 3)]),
           ("open", "lock", [("wet", "marsh")])]
PURSES = {"mill": 500, "marsh": 400, "polder": 300}

# Each function of the interface that takes a land, with the things that are handed in behind it.
OF_A_LAND = [
    (stands, [["gate", "lock"]]), (flood_heights, [["gate", "lock"]]), (show_land, []), (way_to, [["gate"], "polder"]),
    (way_height, [["gate"], "polder", ["west", "marsh"]]), (ring_round, [["gate"], "polder"]),
    (kept_out, [["gate"], ["polder", "mill"]]), (flooded, [["gate"], 5]), (are_decrees, [DECREES]),
    (read_decrees, [show_decrees(DECREES)]), (opened_by, [DECREES, ["lock"], 5, ["marsh"], 1]),
    (keeps, [["mill", "marsh"], 5]), (coins_of, [[("west", 6), ("lock", 9)]]), (fewest, [["mill", "marsh"], 8]),
    (paper_for, [["marsh"], 6, [("west", 20)]]), (cost, [["mill", "marsh"], 8]),
    (saved, [["mill", "marsh"], ["marsh", "polder"], 8]), (companies, [["mill", "marsh"], 8]),
    (shares, [["mill", "marsh"], 8]),
]
OTHERS = [
    (read_land, [show_land(sample())]), (show_decrees, [DECREES]), (holds, [DECREES[0], 5, ["marsh"], 3]),
    (fraction, [6, 4]), (plus, [(1, 2), (1, 3)]), (minus, [(1, 2), (1, 3)]), (less, [(1, 2), (1, 3)]),
]


def kept_by(thing):
    """All that an object tells, by its own methods; a thing of another kind is told itself."""
    if isinstance(thing, Land):
        return (thing.fields(), thing.dykes(), thing.field_names(), thing.dyke_names(), thing.sluices())
    if isinstance(thing, Season):
        return (thing.opened(), thing.wet(), thing.count(), list(thing.wet_days().items()))
    if isinstance(thing, Moot):
        return (kept_by(thing.land()), list(thing.purses().items()), thing.done())
    if isinstance(thing, Desk):
        return [thing.say(row) for row in ["show", "purses", "height polder", "way polder", "height mill"]]
    return thing


def spoil(thing):
    """Changes all lists and dicts in a thing."""
    if isinstance(thing, (list, tuple)):
        for part in thing:
            spoil(part)
    if isinstance(thing, list):
        thing.reverse()
        thing.append("spoiled")
    if isinstance(thing, dict):
        for part in thing.values():
            spoil(part)
        thing.clear()
        thing["spoiled"] = 1


def begun_season():
    season = Season(sample(), copy.deepcopy(DECREES))
    season.days([3, 5, 4])
    return season


def begun_moot():
    moot = Moot(sample(), dict(PURSES))
    moot.move(["marsh", "mill"], 7, ["mill"])
    return moot


def begun_desk():
    desk = Desk()
    for row in ["land " + show_land(sample()).replace("\n", " ; "), "decrees open gate when day 1 of 4", "put marsh 9",
                "day 3", "day 5"]:
        desk.say(row)
    return desk


class TestOwnValues(unittest.TestCase):
    def test_functions_change_nothing_and_tell_what_is_the_askers_own(self):
        for place, (deed, handed) in enumerate(OF_A_LAND + OTHERS):
            land = sample()
            first_ones = [land] if place < len(OF_A_LAND) else []
            given = copy.deepcopy(handed)
            first = deed(*first_ones, *given)
            self.assertEqual(given, handed, deed)
            self.assertEqual((land.fields(), land.dykes()), (FIELDS, DYKES), deed)
            kept = copy.deepcopy(kept_by(first))
            spoil(given)
            self.assertEqual(kept_by(first), kept, deed)
            again = deed(*first_ones, *copy.deepcopy(handed))
            spoil(kept_by(first))
            spoil(first)
            self.assertEqual(kept_by(again), kept, deed)
            self.assertEqual(kept_by(deed(*first_ones, *copy.deepcopy(handed))), kept, deed)
            self.assertEqual((land.fields(), land.dykes()), (FIELDS, DYKES), deed)

    def test_objects_keep_nothing_of_what_is_handed_in(self):
        for made, handed in [(Land, [list(FIELDS), list(DYKES)]), (Season, [sample(), copy.deepcopy(DECREES)]),
                             (Moot, [sample(), dict(PURSES)])]:
            thing = made(*handed)
            kept = copy.deepcopy(kept_by(thing))
            for part in handed:
                spoil(part)
            self.assertEqual(kept_by(thing), kept, made)

    def test_objects_tell_what_is_the_askers_own(self):
        for thing in [sample(), begun_season(), begun_moot()]:
            kept = copy.deepcopy(kept_by(thing))
            spoil(kept_by(thing))
            self.assertEqual(kept_by(thing), kept)

    def test_methods_change_nothing_that_is_handed_in(self):
        for thing, method, handed in [
                (sample(), "raised", [[("west", 6), ("lock", 9)]]), (begun_season(), "days", [[5, 3, 7]]),
                (begun_moot(), "move", [["mill", "marsh"], 9, ["mill", "mill"]])]:
            given = copy.deepcopy(handed)
            answer = getattr(thing, method)(*given)
            self.assertEqual(given, handed)
            kept = copy.deepcopy((kept_by(thing), kept_by(answer)))
            spoil(given)
            self.assertEqual((kept_by(thing), kept_by(answer)), kept)
            spoil(answer)
            self.assertEqual(kept_by(thing), kept[0])


class TestRefused(unittest.TestCase):
    def assert_nothing_changes(self, error, thing, method, *handed):
        before = copy.deepcopy(kept_by(thing))
        for turn in range(2):
            with self.assertRaises(DykeError) as caught:
                getattr(thing, method)(*handed)
            self.assertIs(type(caught.exception), error)
            self.assertEqual(kept_by(thing), before, (method, handed))

    def test_objects(self):
        for error, works in [(NoWork, [("west", 3)]), (NoWork, [("zz", 9)]), (NoWork, [("west", 9), ("west", 9)])]:
            self.assert_nothing_changes(error, sample(), "raised", works)
        season = begun_season()
        self.assert_nothing_changes(NoLevel, season, "day", 10 ** 6 + 1)
        self.assert_nothing_changes(NoLevel, season, "days", [9, None])
        moot = begun_moot()
        for error, fields, height, yes in [
                (NoWish, ["zz"], 9, ["mill"]), (NoWish, ["mill"], None, ["mill"]),
                (NoVoice, ["mill"], 9, ["mill", "sea"]), (Outvoted, ["mill"], 9, ["marsh", "polder"]),
                (Short, ["polder"], 10 ** 6, ["mill"])]:
            self.assert_nothing_changes(error, moot, "move", fields, height, yes)
        self.assert_nothing_changes(NoVoice, moot, "put", "sea", -1)
        self.assert_nothing_changes(NoPurse, moot, "put", "mill", -1)
        self.assertEqual(moot.move(["mill"], 8, ["mill"]), fewest(begun_moot().land(), ["mill"], 8)[0])

    def test_desk(self):
        desk = begun_desk()
        for error, row in [
                (NoRow, "height"), (NoRow, None), (NoText, "land a"), (NoText, "decrees a"), (NoName, "way zz"),
                (NoWish, "cost 5 mill mill"), (NoLevel, "day 1000001"), (NoVoice, "put zz 5"), (NoPurse, "put mill -5"),
                (NoWish, "move 5 zz yes"), (NoVoice, "move 5 mill yes zz"), (Outvoted, "move 5 mill yes"),
                (Short, "move 9 mill yes mill")]:
            self.assert_nothing_changes(error, desk, "say", row)
        self.assertEqual(desk.say("day 7"), begun_desk().say("day 7"))
        with self.assertRaises(NoLand):
            Desk().say("show")

    def test_functions(self):
        land, names = sample(), sample().field_names()
        wide = widest()
        for error, deed, handed in [
                (NoLand, Land, [[], []]), (NoText, read_land, [""]), (NoSluice, stands, [land, ["west"]]),
                (NoWay, way_height, [land, [], "mill", []]), (NoRing, kept_out, [land, [], []]),
                (NoText, read_decrees, [land, "a"]), (NoWish, fewest, [land, [], 5]), (NoWork, coins_of, [land, None]),
                (NoWish, cost, [land, [], None]), (NoWish, saved, [land, names, None, 5]),
                (TooMany, companies, [wide, wide.field_names()[:9], 5]),
                (TooMany, shares, [wide, wide.field_names(), 5]),
                (NoPurse, Moot, [land, {}])]:
            given = copy.deepcopy([kept_by(thing) for thing in handed])
            for turn in range(2):
                with self.assertRaises(DykeError) as caught:
                    deed(*handed)
                self.assertIs(type(caught.exception), error, deed)
            self.assertEqual([kept_by(thing) for thing in handed], given)


class TestThePromise(unittest.TestCase):
    def test_flood_heights_ways_rings_and_wet_fields(self):
        for seed in range(80):
            land = some_land(seed + 500, 8, 16)
            for opened in sets_of_sluices(land):
                heights = flood_heights(land, opened)
                for field, height in heights.items():
                    way, ring = way_to(land, opened, field), ring_round(land, opened, field)
                    self.assertEqual(None if way is None else way_height(land, opened, field, way), height)
                    self.assertIn(field, ring)
                    self.assertEqual(kept_out(land, opened, ring), height)
                for level in range(-8, 9):
                    wet = [field for field, height in heights.items() if height is not None and level > height]
                    self.assertEqual(flooded(land, opened, level), wet)

    def test_the_fewest_coins_with_their_paper(self):
        for seed in range(80):
            land, numbers = some_land(seed + 500, 10, 20), Numbers(seed)
            fields = [name for name in land.field_names() if numbers.below(2)] or land.field_names()
            height = numbers.between(-5, 9)
            coins, works, stream = fewest(land, fields, height)
            self.assertIs(keeps(land.raised(works), fields, height), True)
            self.assertEqual(coins_of(land, works), coins)
            self.assertEqual(paper_for(land, fields, height, stream), coins)
            self.assertEqual(cost(land, fields, height), coins)

    def test_shares_add_up_and_no_company_pays_more_than_by_itself(self):
        for seed in range(80):
            land, numbers = some_land(seed + 500, 7, 16), Numbers(seed)
            fields, height = land.field_names(), numbers.between(-3, 12)
            told = dict((name, Fraction(*share)) for name, share in shares(land, fields, height).items())
            self.assertEqual(sum(told.values()), fewest(land, fields, height)[0])
            for company, coins in companies(land, fields, height):
                self.assertLessEqual(sum(told[name] for name in company), coins)

    def test_purses_and_dues(self):
        done = 0
        for seed in range(80):
            land, numbers = some_land(seed + 500, 7, 12), Numbers(seed)
            names = land.field_names()
            moot = Moot(land, dict((name, numbers.below(80)) for name in names))
            for turn in range(8):
                yes = [name for name in names if numbers.below(2)]
                before = dict((name, Fraction(*purse)) for name, purse in moot.purses().items())
                try:
                    coins = moot.move(names[numbers.below(len(names)):][:3], numbers.between(-3, 9), yes)
                except DykeError:
                    continue
                done += 1
                behind = dict((name, Fraction(*purse)) for name, purse in moot.purses().items())
                self.assertGreater(2 * sum(land.dues(name) for name in yes), sum(land.dues(name) for name in names))
                self.assertEqual(sum(before.values()) - sum(behind.values()), coins)
                self.assertTrue(all(0 <= behind[name] <= before[name] for name in names))
        self.assertGreater(done, 100)

    def test_what_is_written_is_read_to_the_same(self):
        for seed in range(80):
            land = some_land(seed + 500, 12, 40)
            again = read_land(show_land(land))
            self.assertEqual(kept_by(again), kept_by(land))
            decrees = some_decrees(seed, land, 60)
            self.assertEqual(read_decrees(again, show_decrees(decrees)), decrees)


if __name__ == "__main__":
    unittest.main()
