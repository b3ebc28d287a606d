"""Fractions, the shares of a wish [9.1], and what they add up to [9.2]."""

import itertools
import unittest
from fractions import Fraction

from dykemoot.companies import companies, cost
from dykemoot.errors import NoWish, TooMany
from dykemoot.lands import Land
from dykemoot.shares import fraction, less, minus, plus, shares
from tests.helper import (ANYTHING, DYKES, FIELDS, Numbers, assert_refused, least_by_trying, letters, sample, some_land,
                          square, widest)

TOP = 10 ** 6
GREAT = 10 ** 399
NUMBERS = [0, 1, 2, 3, 4, 6, 7, 12, 60, 97, 840, 40320, 10 ** 12, GREAT, GREAT - 1, 3 * 10 ** 398]


def some_fractions():
    tops = NUMBERS + [-number for number in NUMBERS]
    return [(top, bottom) for top in tops for bottom in NUMBERS if bottom > 0]


def as_told(number):
    return (number.numerator, number.denominator)


def shares_by_orders(land, fields, height):
    """The means of the steps, each order gone through, by costs that are found by trying all dykes."""
    costs = {frozenset(): 0}
    for size in range(1, len(fields) + 1):
        for some in itertools.combinations(fields, size):
            costs[frozenset(some)] = least_by_trying(land, list(some), height)
    orders = list(itertools.permutations(fields))
    sums = dict.fromkeys(fields, 0)
    for order in orders:
        for place, field in enumerate(order):
            sums[field] += costs[frozenset(order[:place + 1])] - costs[frozenset(order[:place])]
    return dict((field, as_told(Fraction(sums[field], len(orders)))) for field in fields)


def behind_one_dyke(count, rate):
    """Fields in a chain, with no dyke between them that costs less than the one before them all."""
    names = [letters(place) for place in range(count)]
    chain = [("x" + names[place], names[place], names[place + 1], 0, TOP, None) for place in range(count - 1)]
    return Land([(name, -1, 1) for name in names], [("front", "sea", names[0], 0, rate, None)] + chain)


class TestFraction(unittest.TestCase):
    def assert_fraction(self, told, number):
        self.assertEqual(told, as_told(number))
        self.assertEqual((type(told), type(told[0]), type(told[1])), (tuple, int, int))

    def test_lowest_terms(self):
        for top, bottom, told in [(1, 2, (1, 2)), (2, 4, (1, 2)), (6, 4, (3, 2)), (7, 7, (1, 1)), (12, 3, (4, 1)),
                                  (5, 1, (5, 1)), (40320, 5040, (8, 1)), (3, 10, (3, 10)), (10, 15, (2, 3))]:
            self.assertEqual(fraction(top, bottom), told)

    def test_nought(self):
        for bottom in [1, 2, 7, 40320, GREAT]:
            self.assertEqual(fraction(0, bottom), (0, 1))

    def test_below_nought(self):
        for top, bottom, told in [(-1, 2, (-1, 2)), (-2, 4, (-1, 2)), (-6, 4, (-3, 2)), (-7, 7, (-1, 1)),
                                  (-12, 3, (-4, 1)), (-3, 10, (-3, 10))]:
            self.assertEqual(fraction(top, bottom), told)

    def test_great_numbers(self):
        self.assertEqual(fraction(GREAT, GREAT), (1, 1))
        self.assertEqual(fraction(GREAT, 2 * GREAT // 10), (5, 1))
        self.assertEqual(fraction(-GREAT, 4), (-GREAT // 4, 1))
        self.assertEqual(fraction(GREAT - 1, GREAT), (GREAT - 1, GREAT))
        self.assertEqual(fraction(3 * 10 ** 398, GREAT), (3, 10))

    def test_many(self):
        for top, bottom in some_fractions():
            self.assert_fraction(fraction(top, bottom), Fraction(top, bottom))
        for top in range(-40, 41):
            for bottom in range(1, 41):
                self.assert_fraction(fraction(top, bottom), Fraction(top, bottom))

    def test_two_whose_divisors_take_many_steps(self):
        one, other = 1, 1
        while one < 10 ** 398:
            one, other = one + other, one
        self.assertEqual(fraction(one, other), (one, other))
        self.assertEqual(fraction(-6 * other, 6 * one), (-other, one))


class TestSumsAndDifferences(unittest.TestCase):
    def test_plus(self):
        for one, other, told in [((1, 2), (1, 2), (1, 1)), ((1, 2), (1, 3), (5, 6)), ((1, 6), (1, 3), (1, 2)),
                                 ((0, 1), (3, 4), (3, 4)), ((-1, 2), (1, 2), (0, 1)), ((-3, 4), (1, 4), (-1, 2)),
                                 ((7, 1), (1, 7), (50, 7)), ((1, 6), (1, 10), (4, 15)), ((0, 1), (0, 1), (0, 1))]:
            self.assertEqual(plus(one, other), told)
            self.assertEqual(plus(other, one), told)

    def test_minus(self):
        for one, other, told in [((1, 2), (1, 2), (0, 1)), ((1, 2), (1, 3), (1, 6)), ((1, 3), (1, 2), (-1, 6)),
                                 ((3, 4), (0, 1), (3, 4)), ((0, 1), (3, 4), (-3, 4)), ((-1, 2), (1, 2), (-1, 1)),
                                 ((-1, 2), (-1, 2), (0, 1)), ((100, 1), (75, 2), (125, 2))]:
            self.assertEqual(minus(one, other), told)

    def test_less(self):
        for one, other, told in [((1, 3), (1, 2), True), ((1, 2), (1, 3), False), ((1, 2), (1, 2), False),
                                 ((-1, 2), (-1, 3), True), ((-1, 3), (-1, 2), False), ((-1, 2), (0, 1), True),
                                 ((0, 1), (0, 1), False), ((0, 1), (1, 40320), True), ((2, 3), (3, 4), True),
                                 ((GREAT, 1), (GREAT + 1, 1), True), ((GREAT - 1, GREAT), (1, 1), True)]:
            self.assertIs(less(one, other), told, (one, other))

    def test_many(self):
        some = sorted({fraction(top, bottom) for top, bottom in some_fractions()})
        numbers = Numbers(1)
        for turn in range(4000):
            one, other = some[numbers.below(len(some))], some[numbers.below(len(some))]
            exact = Fraction(*one), Fraction(*other)
            self.assertEqual(plus(one, other), as_told(exact[0] + exact[1]))
            self.assertEqual(minus(one, other), as_told(exact[0] - exact[1]))
            self.assertIs(less(one, other), exact[0] < exact[1])

    def test_small_ones_all(self):
        some = sorted({fraction(top, bottom) for top in range(-5, 6) for bottom in range(1, 6)})
        for one, other in itertools.product(some, some):
            exact = Fraction(*one), Fraction(*other)
            self.assertEqual(plus(one, other), as_told(exact[0] + exact[1]))
            self.assertEqual(minus(one, other), as_told(exact[0] - exact[1]))
            self.assertIs(less(one, other), exact[0] < exact[1])


class TestShares(unittest.TestCase):
    def assert_fair(self, land, fields, height, told):
        """They add up to the coins, none is below 0, and those of no company add up to more than it costs."""
        self.assertEqual(list(told), fields)
        exact = dict((field, Fraction(*told[field])) for field in fields)
        self.assertEqual(told, dict((field, as_told(exact[field])) for field in fields))
        self.assertEqual(sum(exact.values()), cost(land, fields, height))
        self.assertTrue(all(share >= 0 for share in exact.values()), told)
        for company, coins in companies(land, fields, height):
            self.assertLessEqual(sum(exact[field] for field in company), coins, (company, told))

    def test_one_field_pays_all(self):
        self.assertEqual(shares(sample(), ["marsh"], 6), {"marsh": (20, 1)})
        self.assertEqual(shares(sample(), ["marsh"], 4), {"marsh": (0, 1)})

    def test_two_fields(self):
        # Alone a costs 27 and b 24, both cost 33.
        self.assertEqual(shares(square(), ["a", "b"], 10), {"a": (18, 1), "b": (15, 1)})
        self.assertEqual(shares(sample(), ["marsh", "mill"], 8), {"marsh": (75, 2), "mill": (5, 2)})

    def test_three_fields(self):
        # In the orders dab, dba, adb, abd, bda, bad the steps of d are 27, 27, 0, 0, 9, 0, those of a are
        # 0, 0, 27, 27, 0, 9, and those of b 6, 6, 6, 6, 24, 24.
        self.assertEqual(shares(square(), ["d", "a", "b"], 10), {"d": (21, 2), "a": (21, 2), "b": (12, 1)})
        self.assertEqual(shares(square(), ["hill", "d", "a", "b"], 10),
                         {"hill": (0, 1), "d": (21, 2), "a": (21, 2), "b": (12, 1)})

    def test_a_dict_in_the_wishs_order(self):
        for order in itertools.permutations(["d", "hill", "a", "b"]):
            told = shares(square(), list(order), 10)
            self.assertIs(type(told), dict)
            self.assertEqual(list(told), list(order))
            self.assertEqual(told, {"hill": (0, 1), "d": (21, 2), "a": (21, 2), "b": (12, 1)})
            for share in told.values():
                self.assertEqual((type(share), type(share[0]), type(share[1])), (tuple, int, int))

    def test_a_wish_that_is_kept_costs_nobody_anything(self):
        self.assertEqual(shares(sample(), ["mill", "marsh", "polder"], 4),
                         {"mill": (0, 1), "marsh": (0, 1), "polder": (0, 1)})

    def test_all_alike_pay_alike(self):
        for count in range(1, 9):
            land = behind_one_dyke(count, 7)
            names = land.field_names()
            self.assertEqual(shares(land, names, 1), dict.fromkeys(names, fraction(7, count)))

    def test_greatest_numbers(self):
        names = [letters(place) for place in range(8)]
        front = [(letters(place), "sea", "a", -TOP, TOP, None) for place in range(33)]
        chain = [("x" + letters(place), letters(place), letters(place + 1), -TOP, TOP, None) for place in range(7)]
        land = Land([(name, -TOP, 0) for name in names], front + chain)
        told = shares(land, names, TOP)
        self.assert_fair(land, names, TOP, told)
        self.assertEqual(told["h"], fraction(2 * TOP ** 2, 8))

    def test_each_order_gone_through(self):
        for seed in range(120):
            land = some_land(seed, 4, 7)
            fields = land.field_names()[::-1 if seed % 2 else 1]
            for height in [0, 3, 6]:
                told = shares(land, fields, height)
                self.assertEqual(told, shares_by_orders(land, fields, height), (seed, height))
                self.assert_fair(land, fields, height, told)

    def test_each_order_of_five_and_six_fields(self):
        for seed in range(12):
            land = some_land(seed * 7 + 3, 6, 8)
            fields = land.field_names()
            self.assertEqual(shares(land, fields, 5), shares_by_orders(land, fields, 5), seed)

    def test_fair_on_wide_lands(self):
        for seed in range(25):
            land, numbers = some_land(seed, 12, 40), Numbers(seed)
            names = land.field_names()
            start = numbers.below(max(1, len(names) - 7))
            for height in [2, 7, 1000]:
                fields = names[start:start + 8][::-1]
                self.assert_fair(land, fields, height, shares(land, fields, height))

    def test_a_part_of_the_fields_as_a_wish(self):
        for seed in range(40):
            land = some_land(seed, 5, 7)
            for fields in itertools.permutations(land.field_names(), min(2, len(land.field_names()))):
                self.assertEqual(shares(land, list(fields), 4), shares_by_orders(land, list(fields), 4))


class TestRefusals(unittest.TestCase):
    def test_eight_fields_and_nine(self):
        names = widest().field_names()
        told = shares(widest(), names[:8], 140)
        self.assertEqual(list(told), names[:8])
        for fields in [names[:9], names[2:11], names, names[::-1]]:
            assert_refused(self, TooMany, shares, widest(), fields, 140)
            assert_refused(self, TooMany, shares, widest(), fields, -TOP)

    def test_fields_that_are_none(self):
        for thing in ANYTHING + ["marsh", ("marsh",), {"marsh": -3}, {"marsh"}, FIELDS[0], [FIELDS[0]], [["marsh"]],
                                 ["west"], [], ["marsh", "marsh"], ["mill", "marsh", "mill"]]:
            assert_refused(self, NoWish, shares, sample(), thing, 5)
            for fields in [["marsh", thing], [thing, "marsh"]]:
                assert_refused(self, NoWish, shares, sample(), fields, 5)

    def test_heights_that_are_none(self):
        for thing in ANYTHING + [TOP + 1, -TOP - 1, 10 ** 399, "5", [5], (5,), 5.0]:
            if not (type(thing) is int and abs(thing) <= TOP):
                assert_refused(self, NoWish, shares, sample(), ["marsh"], thing)
                assert_refused(self, NoWish, shares, sample(), [], thing)
                assert_refused(self, NoWish, shares, widest(), widest().field_names(), thing)

    def test_no_wish_ahead_of_too_many(self):
        names = widest().field_names()
        for fields in [names + ["a"], names + ["zz"], names + [None], ["a"] * 9, tuple(names), names[:8] + ["sea"]]:
            assert_refused(self, NoWish, shares, widest(), fields, 140)


class TestOwnValues(unittest.TestCase):
    def test_nothing_handed_in_is_changed(self):
        land, fields = sample(), ["mill", "marsh"]
        shares(land, fields, 8)
        self.assertEqual(fields, ["mill", "marsh"])
        self.assertEqual((land.fields(), land.dykes()), (FIELDS, DYKES))

    def test_told_dicts_are_the_askers_own(self):
        land, fields = sample(), ["mill", "marsh"]
        first, kept = shares(land, fields, 8), shares(land, fields, 8)
        first["mill"] = (100, 1)
        first.pop("marsh")
        fields.append("polder")
        self.assertEqual(kept, {"mill": (5, 2), "marsh": (75, 2)})
        self.assertEqual(shares(land, ["mill", "marsh"], 8), kept)


if __name__ == "__main__":
    unittest.main()
