"""Wishes and the coins of works [7.1], the fewest coins [7.2], and papers for them [7.3]."""

import itertools
import unittest

from dykemoot.coins import coins_of, fewest, keeps, paper_for
from dykemoot.errors import NoWish, NoWork
from dykemoot.lands import Land
from tests.helper import (ANYTHING, DYKES, FIELDS, Numbers, assert_refused, floods_by_hand, least_by_trying, letters,
                          sample, some_land, square, widest)

TOP = 10 ** 6


def wishes_of(land):
    names = land.field_names()
    return [list(some) for size in range(1, len(names) + 1) for some in itertools.permutations(names, size)]


def some_wishes(land, seed):
    numbers = Numbers(seed)
    wishes = wishes_of(land)
    return [wishes[numbers.below(len(wishes))] for _ in range(4)]


def coins_by_hand(land, works):
    rows = dict((row[0], row) for row in land.dykes())
    return sum(rows[name][4] * (height - rows[name][3]) for name, height in works)


def paper_by_hand(land, fields, height, stream):
    """A plain reading of 7.3 for a list of tuples of a dyke and a whole number."""
    low = ["sea"] + [row[0] for row in land.fields() if row[1] < height]
    places = [land.dyke_names().index(name) for name, amount in stream]
    if places != sorted(set(places)):
        return None
    goes_in, goes_out = dict.fromkeys(["sea"] + land.field_names(), 0), dict.fromkeys(["sea"] + land.field_names(), 0)
    for name, amount in stream:
        row = land.dyke(name)
        if row[3] >= height or row[1] not in low or row[2] not in low:
            return None
        if amount == 0 or abs(amount) > row[4] * (height - row[3]):
            return None
        goes_out[row[1] if amount > 0 else row[2]] += abs(amount)
        goes_in[row[2] if amount > 0 else row[1]] += abs(amount)
    for name in land.field_names():
        if name in fields and goes_in[name] < goes_out[name] or name not in fields and goes_in[name] != goes_out[name]:
            return None
    return sum(goes_in[name] for name in fields) - sum(goes_out[name] for name in fields)


class TestKeeps(unittest.TestCase):
    def test_kept_and_not_kept(self):
        land = sample()
        for field, height in [("marsh", 4), ("polder", 6), ("mill", 5)]:
            self.assertIs(keeps(land, [field], height - 1), True)
            self.assertIs(keeps(land, [field], height), True)
            self.assertIs(keeps(land, [field], height + 1), False)

    def test_each_field_of_the_wish_counts_and_no_other(self):
        land = sample()
        self.assertIs(keeps(land, ["polder", "mill"], 5), True)
        self.assertIs(keeps(land, ["polder", "mill"], 6), False)
        self.assertIs(keeps(land, ["mill", "polder"], 6), False)
        self.assertIs(keeps(land, ["marsh", "polder", "mill"], 4), True)

    def test_all_sluices_are_shut(self):
        land = Land([("a", 0, 0)], [("b", "a", "sea", 9, 1, 1)])
        self.assertIs(keeps(land, ["a"], 9), True)
        self.assertIs(keeps(land, ["a"], 10), False)

    def test_fields_with_no_way(self):
        land = Land([("a", 0, 0), ("b", 0, 0)], [("x", "sea", "a", 3, 1, None)])
        self.assertIs(keeps(land, ["b"], TOP), True)
        self.assertIs(keeps(land, ["b", "a"], 4), False)

    def test_lowest_and_highest_heights(self):
        land = Land([("a", -TOP, 0)], [("b", "a", "sea", -TOP, 1, None)])
        self.assertEqual([keeps(land, ["a"], height) for height in [-TOP, 1 - TOP, TOP]], [True, False, False])

    def test_many(self):
        for seed in range(100):
            land = some_land(seed)
            least = floods_by_hand(land, [])
            for fields in some_wishes(land, seed):
                for height in range(-7, 8):
                    kept = all(least[name] is None or least[name] >= height for name in fields)
                    self.assertIs(keeps(land, fields, height), kept, (seed, fields, height))


class TestCoinsOf(unittest.TestCase):
    def test_rates_times_steps(self):
        land = sample()
        self.assertEqual(coins_of(land, []), 0)
        self.assertEqual(coins_of(land, [("west", 4)]), 0)
        self.assertEqual(coins_of(land, [("west", 5)]), 10)
        self.assertEqual(coins_of(land, [("west", 7)]), 30)
        self.assertEqual(coins_of(land, [("gate", 1000)]), 0)
        self.assertEqual(coins_of(land, [("lock", 8), ("west", 7), ("marsh", 10)]), 5 + 30 + 12)

    def test_greatest_rate_and_steps(self):
        land = Land([("a", 0, 0)], [("b", "a", "sea", -TOP, TOP, None)])
        self.assertEqual(coins_of(land, [("b", TOP)]), 2 * TOP * TOP)

    def test_many(self):
        for seed in range(100):
            land, numbers = some_land(seed), Numbers(seed)
            works = [(row[0], row[3] + numbers.below(9)) for row in land.dykes() if numbers.below(2)]
            self.assertEqual(coins_of(land, works), coins_by_hand(land, works))
            self.assertEqual(coins_of(land, works[::-1]), coins_by_hand(land, works))

    def assert_no_work(self, works):
        assert_refused(self, NoWork, coins_of, sample(), works)

    def test_works_of_any_other_kind(self):
        for thing in ANYTHING + [(("west", 5),), {"west": 5}, {("west", 5)}, ("west", 5)]:
            if not (type(thing) is list and thing == []):
                self.assert_no_work(thing)

    def test_one_work_of_any_other_kind(self):
        for thing in ANYTHING + [["west", 5], ("west",), ("west", 5, 5), "west"]:
            self.assert_no_work([("gate", 10), thing])
            self.assert_no_work([thing, ("gate", 10)])

    def test_wrong_parts_of_a_work(self):
        for thing in ANYTHING + ["mill", "polder", "wes", "West"]:
            self.assert_no_work([("gate", 10), (thing, 10)])
        for thing in ANYTHING + [3, 4.0, "5", True, TOP + 1]:
            self.assert_no_work([("gate", 10), ("west", thing)])

    def test_lower_than_the_crown_or_twice(self):
        for row in DYKES:
            self.assert_no_work([(row[0], row[3] - 1)])
            self.assert_no_work([(row[0], row[3] + 1), (row[0], row[3] + 1)])


class TestFewest(unittest.TestCase):
    def assert_fewest(self, land, fields, height, coins=None):
        """What is told holds together by plain readings; the coins are told, or shown by its own paper."""
        told = fewest(land, fields, height)
        self.assertIs(type(told), tuple)
        self.assertEqual(len(told), 3)
        found, works, stream = told
        self.assertEqual((type(found), type(works), type(stream)), (int, list, list))
        names = [name for name, to in works]
        self.assertEqual(names, [name for name in land.dyke_names() if name in names])
        for work in works:
            self.assertIs(type(work), tuple)
            self.assertEqual(work[1], height)
            self.assertLess(land.dyke(work[0])[3], height)
        raised = land.raised(works)
        least = floods_by_hand(raised, []) if len(land.dykes()) < 20 else None
        self.assertIs(keeps(raised, fields, height), True)
        self.assertTrue(least is None or all(least[name] is None or least[name] >= height for name in fields))
        self.assertEqual(coins_of(land, works), found)
        self.assertEqual(coins_by_hand(land, works), found)
        self.assertTrue(all(type(flow) is tuple and type(flow[1]) is int for flow in stream))
        self.assertEqual(paper_by_hand(land, fields, height, stream), found)
        self.assertEqual(paper_for(land, fields, height, stream), found)
        if coins is not None:
            self.assertEqual(found, coins)
        return told

    def test_one_dyke(self):
        for sides, sign in [(("a", "sea"), -1), (("sea", "a"), 1)]:
            land = Land([("a", 0, 0)], [("b", sides[0], sides[1], 2, 7, None)])
            self.assertEqual(fewest(land, ["a"], 5), (21, [("b", 5)], [("b", sign * 21)]))
            self.assertEqual(fewest(land, ["a"], 3), (7, [("b", 3)], [("b", sign * 7)]))
            self.assertEqual(fewest(land, ["a"], 2), (0, [], []))
            self.assertEqual(fewest(land, ["a"], 1), (0, [], []))

    def test_the_cheaper_of_two_dykes_in_a_row(self):
        fields = [("a", 0, 0), ("b", 0, 0)]
        land = Land(fields, [("x", "sea", "a", 0, 3, None), ("y", "a", "b", 0, 2, None)])
        self.assertEqual(fewest(land, ["b"], 5), (10, [("y", 5)], [("x", 10), ("y", 10)]))
        self.assertEqual(fewest(land, ["a"], 5), (15, [("x", 5)], [("x", 15)]))
        self.assertEqual(fewest(land, ["a", "b"], 5)[:2], (15, [("x", 5)]))

    def test_dykes_beside_one_another_are_all_raised(self):
        dykes = [(name, "sea", "a", crown, 2, None) for name, crown in zip("xyz", [3, 1, 2])]
        self.assertEqual(fewest(Land([("a", 0, 0)], dykes), ["a"], 4),
                         (12, [("x", 4), ("y", 4), ("z", 4)], [("x", 2), ("y", 6), ("z", 4)]))
        self.assertEqual(fewest(Land([("a", 0, 0)], dykes), ["a"], 3)[:2], (6, [("y", 3), ("z", 3)]))

    def test_a_square(self):
        # Raised to 10, sa costs 18, sb 15, ab 1, ad 20 and bd 8.
        for fields, coins in [(["d"], 18 + 1 + 8), (["a"], 18 + 1 + 8), (["b"], 15 + 1 + 8), (["a", "b"], 18 + 15),
                              (["hill"], 0), (["d", "hill", "a", "b"], 18 + 15)]:
            self.assert_fewest(square(), fields, 10, coins)
        self.assertEqual(fewest(square(), ["d"], 10)[1], [("sa", 10), ("ab", 10), ("bd", 10)])
        self.assertEqual(fewest(square(), ["b"], 10)[1], [("sb", 10), ("ab", 10), ("bd", 10)])

    def test_a_stream_that_must_be_turned_back(self):
        fields = [("a", 0, 0), ("b", 0, 0), ("c", 0, 0), ("d", 0, 0), ("t", 0, 0)]
        dykes = [("sa", "sea", "a", 0, 1, None), ("ab", "a", "b", 0, 1, None), ("bt", "b", "t", 0, 1, None),
                 ("sc", "sea", "c", 0, 1, None), ("cb", "b", "c", 0, 1, None), ("ad", "d", "a", 0, 1, None),
                 ("dt", "d", "t", 0, 1, None)]
        for turn in range(7):
            self.assert_fewest(Land(fields, dykes[turn:] + dykes[:turn]), ["t"], 1, 2)

    def test_wishes_that_cost_nothing(self):
        land = sample()
        for field, height in [("marsh", 4), ("polder", 6), ("mill", 5), ("mill", -TOP)]:
            self.assert_fewest(land, [field], height, 0)
        fields = [("a", 0, 0), ("b", 0, 0), ("c", 0, 0)]
        cut = Land(fields, [("x", "sea", "a", 3, 1, None), ("y", "b", "c", 0, 4, None)])
        self.assert_fewest(cut, ["b"], TOP, 0)
        self.assert_fewest(cut, ["c", "b"], TOP, 0)
        self.assert_fewest(cut, ["c", "a", "b"], 5, 2)

    def test_a_dyke_whose_rate_is_nought(self):
        land = Land([("a", 0, 0)], [("b", "a", "sea", 2, 0, None)])
        self.assertEqual(fewest(land, ["a"], 5), (0, [("b", 5)], []))
        fields = [("a", 0, 0), ("b", 0, 0)]
        dykes = [("x", "sea", "a", 0, 3, None), ("y", "a", "b", 0, 0, None), ("z", "sea", "b", 0, 2, None)]
        self.assert_fewest(Land(fields, dykes), ["b"], 5, 10)
        self.assert_fewest(Land(fields, dykes), ["a", "b"], 5, 25)
        self.assert_fewest(sample(), ["polder"], 10, 12)

    def test_fields_whose_ground_is_no_lower_than_the_height(self):
        for ground, coins in [(4, 15), (5, 0), (6, 0)]:
            land = Land([("a", ground, 0)], [("b", "a", "sea", 2, 5, None)])
            self.assert_fewest(land, ["a"], 5, coins)
            chain = Land([("far", 0, 0), ("mid", ground, 0)],
                         [("x", "sea", "mid", 0, 3, None), ("y", "mid", "far", 0, 4, None)])
            self.assert_fewest(chain, ["far"], 5, coins)
            self.assert_fewest(chain, ["far", "mid"], 5, coins)

    def test_crowns_that_are_no_lower_than_the_height(self):
        for crown, coins in [(4, 3), (5, 0), (6, 0)]:
            land = Land([("a", 0, 0)], [("b", "a", "sea", crown, 3, -1)])
            self.assert_fewest(land, ["a"], 5, coins)

    def test_greatest_numbers(self):
        land = Land([("a", -TOP, 0)], [(letters(place), "sea", "a", -TOP, TOP, None) for place in range(40)])
        self.assert_fewest(land, ["a"], TOP, 80 * TOP * TOP)
        self.assert_fewest(land, ["a"], -TOP, 0)

    def test_the_widest_land(self):
        self.assert_fewest(widest(), ["l"], 101)
        self.assert_fewest(widest(), ["l"], 140)
        self.assert_fewest(widest(), ["l", "a", "f"], 140)
        self.assert_fewest(widest(), widest().field_names(), TOP)

    def test_none_fewer_by_trying_all_dykes(self):
        for seed in range(150):
            land = some_land(seed, 5, 8)
            for fields in some_wishes(land, seed):
                for height in [-3, 0, 3, 7]:
                    self.assert_fewest(land, fields, height, least_by_trying(land, fields, height))

    def test_none_fewer_by_trying_all_heights(self):
        for seed in range(120):
            land = some_land(seed, 3, 4, 2)
            for fields, height in itertools.product(some_wishes(land, seed)[:2], [0, 2]):
                coins = self.assert_fewest(land, fields, height)[0]
                tops = [range(row[3], max(row[3], height) + 2) for row in land.dykes()]
                for heights in itertools.product(*tops):
                    works = list(zip(land.dyke_names(), heights))
                    if coins_by_hand(land, works) < coins:
                        self.assertIs(keeps(land.raised(works), fields, height), False, (seed, fields, works))

    def test_many_wide_lands(self):
        for seed in range(60):
            land = some_land(seed, 12, 40)
            for fields in [land.field_names()[:1], land.field_names()[-1:], land.field_names()[::2][::-1]]:
                for height in [0, 4, 8, 1000]:
                    self.assert_fewest(land, fields, height)

    def test_great_amounts_on_wide_lands(self):
        names = [letters(place) for place in range(12)]
        pairs = list(itertools.combinations(["sea"] + names, 2))
        for seed in range(40):
            numbers = Numbers(seed)
            dykes = []
            for place in range(40):
                one, other = pairs[numbers.below(len(pairs))]
                dykes.append((letters(place), one, other, -numbers.below(TOP), numbers.below(TOP), None))
            land = Land([(name, -TOP, 0) for name in names], dykes)
            self.assert_fewest(land, names[-1 - seed % 4:], TOP)

    def test_each_told_work_is_needed(self):
        for seed in range(100):
            land = some_land(seed, 5, 8)
            for fields in some_wishes(land, seed):
                works = fewest(land, fields, 3)[1]
                for work in works:
                    others = [other for other in works if other != work]
                    self.assertIs(keeps(land.raised(others), fields, 3), False, (seed, fields, works))


class TestPaperFor(unittest.TestCase):
    def assert_paper(self, coins, stream, fields=("d",), height=10, land=None):
        handed = (land or square(), list(fields), height, stream)
        self.assertEqual(paper_for(*handed), coins, stream)
        self.assertEqual(paper_by_hand(*handed), coins, stream)

    def test_papers(self):
        self.assert_paper(0, [])
        self.assert_paper(18, [("sa", 18), ("ad", -18)])
        self.assert_paper(8, [("sb", -8), ("bd", 8)])
        self.assert_paper(26, [("sa", 18), ("sb", -8), ("ad", -18), ("bd", 8)])
        self.assert_paper(19, [("sa", 18), ("sb", -1), ("ab", -1), ("ad", -19)])
        self.assert_paper(1, [("sa", 1), ("ab", 1), ("bd", 1)])

    def test_a_stream_round_about_is_a_paper_for_nothing(self):
        self.assert_paper(0, [("ab", 1), ("ad", 1), ("bd", 1)], ["hill"])
        self.assert_paper(0, [("ab", -1), ("ad", -1), ("bd", -1)])

    def test_a_stream_through_a_field_of_the_wish(self):
        self.assert_paper(18, [("sa", 18), ("ad", -18)], ["a", "d"])
        self.assert_paper(18, [("sa", 18), ("ad", -17)], ["d", "a"])
        self.assert_paper(None, [("sa", 17), ("ad", -18)], ["a", "d"])
        self.assert_paper(None, [("ad", -18)], ["a", "d"])

    def test_a_stream_back_to_the_sea(self):
        self.assert_paper(0, [("sa", 1), ("sb", 1), ("ab", 1)])
        self.assert_paper(2, [("sa", 3), ("sb", 1), ("ab", 1)], ["a"])
        self.assert_paper(None, [("sa", -1)], ["a"])
        self.assert_paper(None, [("sb", 1)], ["b"])

    def test_amounts_of_nought(self):
        for name in ["sa", "sb", "ab", "ad", "bd"]:
            self.assert_paper(None, [(name, 0)])
        self.assert_paper(None, [("sa", 18), ("sb", -8), ("ab", 0), ("ad", -18), ("bd", 8)])
        self.assert_paper(26, [("sa", 18), ("sb", -8), ("ad", -18), ("bd", 8)])

    def test_amounts_just_at_and_above_the_coins(self):
        for coins, paper in [(18, 18), (19, None), (17, 17)]:
            self.assert_paper(paper, [("sa", coins)], ["a"])
        for coins, paper in [(14, 14), (15, 15), (16, None)]:
            self.assert_paper(paper, [("sb", -coins)], ["b"])
        self.assert_paper(None, [("sb", -8), ("bd", 9)])
        self.assert_paper(None, [("sb", -9), ("bd", 9)])

    def test_dykes_whose_rate_is_nought(self):
        land = Land([("a", 0, 0)], [("b", "sea", "a", 2, 0, None), ("c", "sea", "a", 2, 1, None)])
        self.assert_paper(None, [("b", 1)], ["a"], 5, land)
        self.assert_paper(None, [("b", 0)], ["a"], 5, land)
        self.assert_paper(None, [("b", 1), ("c", 3)], ["a"], 5, land)
        self.assert_paper(3, [("c", 3)], ["a"], 5, land)

    def test_dykes_that_are_no_gaps(self):
        self.assert_paper(None, [("sh", 1), ("hd", 1)])
        self.assert_paper(None, [("sh", 1)], ["hill"])
        self.assert_paper(None, [("hd", -1)], ["hill"])
        self.assert_paper(2, [("sh", 1), ("hd", 1), ("high", 1)], ["d"], 51)
        self.assert_paper(None, [("high", 1)])
        self.assert_paper(1, [("high", 1)], ["d"], 11)
        self.assert_paper(None, [("sh", 1), ("hd", 1)], ["d"], 50)

    def test_amounts_that_do_not_go_on(self):
        self.assert_paper(None, [("sa", 18), ("ad", -17)])
        self.assert_paper(None, [("sa", 17), ("ad", -18)])
        self.assert_paper(None, [("sa", 18)])
        self.assert_paper(None, [("ad", -18)])
        self.assert_paper(None, [("sa", 18), ("ad", 18)])
        self.assert_paper(None, [("sa", -18), ("ad", 18)])

    def test_a_dyke_twice_or_out_of_order(self):
        self.assert_paper(None, [("sa", 9), ("sa", 9), ("ad", -18)])
        self.assert_paper(None, [("sa", 9), ("ad", -9), ("ad", -9)])
        self.assert_paper(None, [("sa", 9), ("ad", -9), ("sa", 9), ("ad", -9)])
        self.assert_paper(None, [("ad", -18), ("sa", 18)])
        self.assert_paper(None, [("sa", 18), ("ad", -18), ("sb", -8), ("bd", 8)])

    def assert_none(self, stream):
        before = repr(stream)
        self.assertIsNone(paper_for(square(), ["d"], 10, stream), before)
        self.assertEqual(repr(stream), before)

    def test_anything_else(self):
        good = [("sa", 18), ("ad", -18)]
        for thing in ANYTHING + [tuple(good), dict(good), set(good), good[0], list(good[0]), "sa", None]:
            if not (type(thing) is list and thing == []):
                self.assert_none(thing)

    def test_one_part_of_any_other_kind(self):
        for thing in ANYTHING + [["sb", 1], ("sb",), ("sb", 1, 1), "sb"]:
            for place in range(3):
                self.assert_none([("sa", 18), ("ad", -18)][:place] + [thing] + [("sa", 18), ("ad", -18)][place:])

    def test_wrong_parts_of_a_flow(self):
        for thing in ANYTHING + ["d", "hill", "Sa", "s", ("sa",), ["sa"]]:
            self.assert_none([(thing, 18), ("ad", -18)])
            self.assert_none([(thing, 1)])
        for thing in ANYTHING + [18.0, "18", [18], True, 10 ** 399, -10 ** 399]:
            if not (type(thing) is int and thing == 1):
                self.assert_none([("sa", thing), ("ad", -18)])
                self.assertIsNone(paper_for(square(), ["a"], 10, [("sa", thing)]), repr(thing))

    def test_all_streams_of_small_lands(self):
        for seed in range(60):
            land = some_land(seed, 3, 3, 2)
            land = Land(land.fields(), [row[:4] + (min(row[4], 2),) + row[5:] for row in land.dykes()])
            for fields, height in itertools.product(some_wishes(land, seed)[:2], [1, 3]):
                papers = []
                amounts = range(-5, 6)
                for some in itertools.product([None] + list(amounts), repeat=len(land.dykes())):
                    stream = [(name, amount) for name, amount in zip(land.dyke_names(), some) if amount is not None]
                    coins = paper_for(land, fields, height, stream)
                    self.assertEqual(coins, paper_by_hand(land, fields, height, stream), (seed, fields, stream))
                    if coins is not None:
                        papers.append(coins)
                self.assertLessEqual(max(papers), fewest(land, fields, height)[0])


class TestNoWish(unittest.TestCase):
    def assert_no_wish(self, fields, height, stream=None):
        land = sample()
        assert_refused(self, NoWish, keeps, land, fields, height)
        assert_refused(self, NoWish, fewest, land, fields, height)
        assert_refused(self, NoWish, paper_for, land, fields, height, [] if stream is None else stream)

    def test_anything_else(self):
        for thing in ANYTHING + ["marsh", ("marsh",), {"marsh": -3}, {"marsh"}, FIELDS[0], [FIELDS[0]], [["marsh"]]]:
            self.assert_no_wish(thing, 5)

    def test_something_else_among_the_fields(self):
        for thing in ANYTHING + ["west", "gate", "mar", "Marsh", ("mill",), ["mill"]]:
            for fields in [["marsh", thing], [thing, "marsh"], ["marsh", thing, "mill"]]:
                self.assert_no_wish(fields, 5)

    def test_no_fields_or_a_field_twice(self):
        for fields in [[], ["marsh", "marsh"], ["marsh", "mill", "marsh"], ["polder", "marsh", "mill", "mill"]]:
            self.assert_no_wish(fields, 5)

    def test_heights_that_are_none(self):
        for thing in ANYTHING + [TOP + 1, -TOP - 1, 10 ** 399, "5", [5], (5,), 5.0]:
            if not (type(thing) is int and abs(thing) <= TOP):
                self.assert_no_wish(["marsh"], thing)
                self.assert_no_wish([], thing)

    def test_ahead_of_streams_that_are_none(self):
        for stream in [None, "west", [("west", 0)], [("zz", 1)], ()]:
            assert_refused(self, NoWish, paper_for, sample(), ["zz"], 5, stream)
            assert_refused(self, NoWish, paper_for, sample(), ["mill"], TOP + 1, stream)


class TestOwnValues(unittest.TestCase):
    def test_nothing_handed_in_is_changed(self):
        land, fields, works, stream = sample(), ["mill", "marsh"], [("lock", 8), ("west", 5)], [("west", 10)]
        keeps(land, fields, 8)
        coins_of(land, works)
        fewest(land, fields, 8)
        paper_for(land, fields, 8, stream)
        self.assertEqual((fields, works, stream), (["mill", "marsh"], [("lock", 8), ("west", 5)], [("west", 10)]))
        self.assertEqual((land.fields(), land.dykes()), (FIELDS, DYKES))

    def test_told_lists_are_the_askers_own(self):
        land, fields = sample(), ["mill", "marsh"]
        first, kept = fewest(land, fields, 8), fewest(land, fields, 8)
        before = (kept[0], list(kept[1]), list(kept[2]))
        first[1].clear()
        first[2].clear()
        fields.append("polder")
        self.assertEqual(kept, before)
        self.assertEqual(fewest(land, ["mill", "marsh"], 8), before)
        self.assertEqual((land.fields(), land.dykes()), (FIELDS, DYKES))


if __name__ == "__main__":
    unittest.main()
