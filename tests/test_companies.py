"""What companies cost and save [8.1], and all companies of a wish [8.2]."""

import copy
import itertools
import unittest

from dykemoot.coins import fewest
from dykemoot.companies import companies, cost, saved
from dykemoot.errors import NoWish, TooMany
from dykemoot.lands import Land
from tests.helper import (ANYTHING, DYKES, FIELDS, Numbers, assert_refused, least_by_trying, letters, sample, some_land,
                          square, widest)

TOP = 10 ** 6
NO_HEIGHTS = [thing for thing in ANYTHING + [TOP + 1, -TOP - 1, 10 ** 399, "5", [5], (5,), 5.0]
              if not (type(thing) is int and abs(thing) <= TOP)]
NO_COMPANIES = [thing for thing in ANYTHING + ["marsh", ("marsh",), {"marsh": -3}, {"marsh"}, FIELDS[0], [FIELDS[0]],
                                               [["marsh"]], ["west"], ["gate"], ["marsh", "west"], ["marsh", "marsh"],
                                               ["mill", "marsh", "mill"], ["marsh", None], [None, "marsh"]]
                if not (type(thing) is list and thing == [])]


def lists_by_hand(fields):
    """Each list of the fields: shorter ones first, then by the places of their fields."""
    return [list(some) for size in range(len(fields) + 1) for some in itertools.combinations(fields, size)]


def cost_by_trying(land, fields, height):
    return least_by_trying(land, fields, height) if fields else 0


def row_of(count):
    """The first field lies behind a dear dyke, and each other one behind it, with a dyke of its own for one coin."""
    names = [letters(place) for place in range(count)]
    dykes = [("all", "sea", names[0], 0, count, None)]
    dykes += [("to" + name, names[0], name, 0, 1, None) for name in names[1:]]
    return Land([(name, -1, 1) for name in names], dykes)


class TestCost(unittest.TestCase):
    def test_a_square(self):
        # Raised to 10, sa costs 18, sb 15, ab 1, ad 20 and bd 8.
        for fields, coins in [([], 0), (["a"], 27), (["b"], 24), (["d"], 27), (["a", "b"], 33), (["a", "d"], 27),
                              (["d", "b"], 33), (["hill"], 0), (["hill", "b"], 24), (["d", "hill", "a", "b"], 33)]:
            self.assertEqual(cost(square(), fields, 10), coins, fields)
            self.assertEqual(cost(square(), fields[::-1], 10), coins, fields)
            self.assertIs(type(cost(square(), fields, 10)), int)

    def test_a_company_of_none(self):
        for height in [-TOP, -1, 0, 1, 5, TOP]:
            told = cost(sample(), [], height)
            self.assertEqual(told, 0)
            self.assertIs(type(told), int)

    def test_lowest_and_highest_heights(self):
        land = Land([("a", -TOP, 0)], [("b", "a", "sea", -TOP, TOP, None)])
        self.assertEqual([cost(land, ["a"], height) for height in [-TOP, 1 - TOP, TOP]], [0, TOP, 2 * TOP * TOP])

    def test_more_than_eight_fields(self):
        names = widest().field_names()
        for fields in [names[:8], names[:9], names]:
            self.assertEqual(cost(widest(), fields, 140), fewest(widest(), fields, 140)[0])

    def test_the_fewest_coins_by_trying_all_dykes(self):
        for seed in range(100):
            land = some_land(seed, 4, 7)
            for fields in lists_by_hand(land.field_names()):
                for height in [0, 3, 7]:
                    self.assertEqual(cost(land, fields, height), cost_by_trying(land, fields, height), (seed, fields))


class TestSaved(unittest.TestCase):
    def assert_saved(self, coins, one, other, land=None, height=10):
        for handed in [(one, other), (other, one), (one[::-1], other), (one, other[::-1])]:
            told = saved(land or square(), handed[0], handed[1], height)
            self.assertEqual(told, coins, handed)
            self.assertIs(type(told), int)

    def test_a_square(self):
        self.assert_saved(27 + 24 - 33, ["a"], ["b"])
        self.assert_saved(27 + 27 - 27, ["a"], ["d"])
        self.assert_saved(27 + 24 - 33, ["d"], ["b"])
        self.assert_saved(0, ["hill"], ["b"])
        self.assert_saved(33 + 27 - 33, ["a", "b"], ["d"])

    def test_those_in_both_are_taken_into_account(self):
        self.assert_saved(33 + 33 - 33 - 24, ["a", "b"], ["b", "d"])
        self.assert_saved(27 + 33 - 33 - 27, ["a", "d"], ["a", "b"])
        self.assert_saved(33 + 33 - 33 - 33, ["a", "b", "d"], ["b", "a"])
        self.assert_saved(27 + 24 - 33 - 0, ["hill", "a"], ["b", "hill"])

    def test_companies_of_none_and_a_company_with_itself(self):
        for fields in [[], ["a"], ["hill"], ["a", "b"], ["d", "hill", "a", "b"]]:
            self.assert_saved(0, fields, [])
            self.assert_saved(0, fields, list(fields))
            self.assertEqual(saved(square(), fields, fields, 10), 0)

    def test_two_far_apart_save_nothing(self):
        land = Land([("a", 0, 0), ("b", 0, 0)], [("x", "sea", "a", 0, 3, None), ("y", "sea", "b", 0, 4, None)])
        self.assert_saved(0, ["a"], ["b"], land)

    def test_two_behind_one_dyke_save_it_once(self):
        self.assert_saved(3 * 10, ["b"], ["c"], Land(
            [("a", -1, 0), ("b", -1, 0), ("c", -1, 0)],
            [("x", "sea", "a", 0, 3, None), ("y", "a", "b", 0, 9, None), ("z", "a", "c", 0, 9, None)]))

    def test_many_by_hand_and_never_below_nought(self):
        for seed in range(60):
            land = some_land(seed, 4, 7)
            lists = lists_by_hand(land.field_names())
            for height in [0, 4]:
                costs = dict((frozenset(fields), cost_by_trying(land, fields, height)) for fields in lists)
                for one, other in itertools.product(lists, lists):
                    both, either = frozenset(one) & frozenset(other), frozenset(one) | frozenset(other)
                    told = saved(land, one, other, height)
                    by_hand = costs[frozenset(one)] + costs[frozenset(other)] - costs[either] - costs[both]
                    self.assertEqual(told, by_hand, (seed, one, other, height))
                    self.assertGreaterEqual(told, 0)

    def test_never_below_nought_on_wide_lands(self):
        for seed in range(40):
            land, numbers = some_land(seed, 12, 40), Numbers(seed)
            for turn in range(6):
                one, other = [[name for name in land.field_names() if numbers.below(2)] for part in range(2)]
                self.assertGreaterEqual(saved(land, one, other, numbers.between(-4, 9)), 0)


class TestCompanies(unittest.TestCase):
    def test_one_field(self):
        self.assertEqual(companies(sample(), ["marsh"], 6), [([], 0), (["marsh"], 20)])

    def test_three_fields_in_the_told_order(self):
        self.assertEqual(companies(square(), ["d", "a", "b"], 10), [
            ([], 0), (["d"], 27), (["a"], 27), (["b"], 24), (["d", "a"], 27), (["d", "b"], 33), (["a", "b"], 33),
            (["d", "a", "b"], 33)])

    def test_by_the_places_in_the_wish_not_by_names_or_the_lands_order(self):
        wish = ["d", "hill", "a", "b"]
        for some in itertools.permutations(wish):
            told = companies(square(), list(some), 10)
            self.assertEqual([company for company, coins in told], lists_by_hand(some))

    def test_kinds(self):
        told = companies(square(), ["b", "a"], 10)
        self.assertIs(type(told), list)
        for row in told:
            self.assertEqual((type(row), type(row[0]), type(row[1])), (tuple, list, int))
            self.assertEqual(len(row), 2)

    def test_many(self):
        for seed in range(60):
            land = some_land(seed, 4, 7)
            wish = land.field_names()[::-1]
            for height in [0, 5]:
                by_hand = [(fields, cost_by_trying(land, fields, height)) for fields in lists_by_hand(wish)]
                self.assertEqual(companies(land, wish, height), by_hand)

    def test_eight_fields_and_nine(self):
        land = row_of(9)
        wish = land.field_names()[8:0:-1]
        told = companies(land, wish, 1)
        self.assertEqual([company for company, coins in told], lists_by_hand(wish))
        self.assertEqual(len(told), 256)
        # Each one's own dyke, for one coin, is never dearer than the one before all of them.
        self.assertEqual([coins for company, coins in told], [len(company) for company, coins in told])
        assert_refused(self, TooMany, companies, land, land.field_names(), 1)
        assert_refused(self, TooMany, companies, land, land.field_names()[::-1], -TOP)

    def test_twelve_fields(self):
        assert_refused(self, TooMany, companies, widest(), widest().field_names(), 140)
        self.assertEqual(len(companies(widest(), widest().field_names()[4:], 140)), 256)

    def test_no_wish_ahead_of_too_many(self):
        land = row_of(9)
        names = land.field_names()
        for height in NO_HEIGHTS:
            assert_refused(self, NoWish, companies, land, names, height)
        for fields in [names + ["a"], names + ["zz"], names + [None], ["a"] * 9, tuple(names), names[:8] + ["sea"]]:
            assert_refused(self, NoWish, companies, land, fields, 1)


class TestNoWish(unittest.TestCase):
    def test_companies_that_are_none(self):
        for thing in NO_COMPANIES:
            assert_refused(self, NoWish, cost, sample(), thing, 5)
            assert_refused(self, NoWish, companies, sample(), thing, 5)
            for company in [[], ["marsh"], ["mill", "polder"]]:
                assert_refused(self, NoWish, saved, sample(), thing, company, 5)
                assert_refused(self, NoWish, saved, sample(), company, thing, 5)
            assert_refused(self, NoWish, saved, sample(), thing, thing, 5)

    def test_something_else_among_the_fields(self):
        for thing in ANYTHING + ["west", "gate", "mar", "Marsh", ("mill",), ["mill"]]:
            for fields in [["marsh", thing], [thing, "marsh"], ["marsh", thing, "mill"]]:
                assert_refused(self, NoWish, cost, sample(), fields, 5)
                assert_refused(self, NoWish, companies, sample(), fields, 5)
                assert_refused(self, NoWish, saved, sample(), fields, ["marsh"], 5)
                assert_refused(self, NoWish, saved, sample(), [], fields, 5)

    def test_heights_that_are_none(self):
        for thing in NO_HEIGHTS:
            for fields in [[], ["marsh"], ["mill", "polder"]]:
                assert_refused(self, NoWish, cost, sample(), fields, thing)
                assert_refused(self, NoWish, companies, sample(), fields, thing)
                assert_refused(self, NoWish, saved, sample(), fields, [], thing)
                assert_refused(self, NoWish, saved, sample(), [], fields, thing)
                assert_refused(self, NoWish, saved, sample(), fields, ["marsh"], thing)

    def test_a_wish_of_none(self):
        assert_refused(self, NoWish, companies, sample(), [], 5)


class TestOwnValues(unittest.TestCase):
    def test_nothing_handed_in_is_changed(self):
        land, one, other = sample(), ["mill", "marsh"], ["marsh", "polder"]
        cost(land, one, 8)
        saved(land, one, other, 8)
        companies(land, one, 8)
        self.assertEqual((one, other), (["mill", "marsh"], ["marsh", "polder"]))
        self.assertEqual((land.fields(), land.dykes()), (FIELDS, DYKES))

    def test_told_lists_are_the_askers_own(self):
        land, wish = sample(), ["mill", "marsh"]
        first, kept = companies(land, wish, 8), companies(land, wish, 8)
        before = copy.deepcopy(kept)
        for company, coins in first:
            company.append("polder")
        first.clear()
        wish.append("polder")
        self.assertEqual(kept, before)
        self.assertEqual(companies(land, ["mill", "marsh"], 8), before)

    def test_the_told_companies_are_lists_apart(self):
        told = companies(sample(), ["mill", "marsh", "polder"], 8)
        before = copy.deepcopy(told)
        told[0][0].append("zz")
        told[-1][0].clear()
        self.assertEqual(told[1:-1], before[1:-1])


if __name__ == "__main__":
    unittest.main()
