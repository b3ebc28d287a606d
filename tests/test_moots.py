"""Moots: purses [10.1], works that are moved [10.2], and coins that are put in [10.3]."""

import copy
import itertools
import unittest
from fractions import Fraction

from dykemoot.coins import coins_of, fewest, keeps
from dykemoot.errors import DykeError, NoPurse, NoVoice, NoWish, Outvoted, Short, TooMany
from dykemoot.lands import Land
from dykemoot.moots import Moot
from dykemoot.shares import less, shares
from tests.helper import (ANYTHING, DYKES, FIELDS, Numbers, assert_refused, letters, sample, some_land, square, widest)

TOP = 10 ** 6
MOST = 10 ** 12
RICH = {"marsh": 1000, "polder": 1000, "mill": 1000}
EMPTY = {"marsh": 0, "polder": 0, "mill": 0}
NO_COINS = [thing for thing in ANYTHING + [-1, MOST + 1, 10 ** 399, -MOST, 5.0, "5", [5], (5, 1), (5,), {5: 5}]
            if not (type(thing) is int and 0 <= thing <= MOST)]
NO_FIELDS = ANYTHING + ["west", "gate", "mar", "Marsh", "marsh ", ("mill",), ["mill"], {"mill": 1}, FIELDS[0]]
NO_HEIGHTS = [thing for thing in ANYTHING + [TOP + 1, -TOP - 1, 10 ** 399, "5", [5], 5.0]
              if not (type(thing) is int and abs(thing) <= TOP)]


def told(moot):
    """All that a moot tells."""
    land = moot.land()
    return (land.fields(), land.dykes(), list(moot.purses().items()), moot.done())


def rows_of(land):
    return (land.fields(), land.dykes())


def voters(dues):
    """Fields a, b, c, .. with these dues, each behind one dyke for one coin a step."""
    names = [letters(place) for place in range(len(dues))]
    return Land([(name, 0, due) for name, due in zip(names, dues)],
                [("d" + name, "sea", name, 1, 1, None) for name in names])


def full(land, coins=MOST):
    return dict.fromkeys(land.field_names(), coins)


class TestOpened(unittest.TestCase):
    def test_tells_land_purses_and_nothing_done(self):
        land = sample()
        moot = Moot(land, {"marsh": 3, "polder": 0, "mill": MOST})
        self.assertIsInstance(moot.land(), Land)
        self.assertEqual(told(moot), (FIELDS, DYKES, [("marsh", (3, 1)), ("polder", (0, 1)), ("mill", (MOST, 1))], []))
        self.assertEqual((type(moot.purses()), type(moot.done())), (dict, list))
        for purse in moot.purses().values():
            self.assertEqual((type(purse), type(purse[0]), type(purse[1])), (tuple, int, int))

    def test_purses_are_told_in_the_lands_order(self):
        for order in itertools.permutations(EMPTY.items()):
            self.assertEqual(list(Moot(sample(), dict(order)).purses()), ["marsh", "polder", "mill"])

    def test_purses_from_nought_to_the_most(self):
        for coins in [0, 1, 7, MOST - 1, MOST]:
            purses = Moot(sample(), dict(EMPTY, mill=coins)).purses()
            self.assertEqual(purses, {"marsh": (0, 1), "polder": (0, 1), "mill": (coins, 1)})


class TestNoPurses(unittest.TestCase):
    def assert_no_purses(self, thing):
        assert_refused(self, NoPurse, Moot, sample(), thing)

    def test_anything_else(self):
        for thing in ANYTHING + [list(EMPTY), list(EMPTY.items()), tuple(EMPTY.items()), {"marsh"}, set(EMPTY), "marsh",
                                 [EMPTY], (EMPTY,)]:
            self.assert_no_purses(thing)

    def test_coins_of_any_other_kind(self):
        for thing in NO_COINS:
            for name in EMPTY:
                self.assert_no_purses(dict(EMPTY, **{name: thing}))

    def test_a_field_too_few(self):
        for name in EMPTY:
            self.assert_no_purses(dict((other, 5) for other in EMPTY if other != name))
            self.assert_no_purses({name: 5})

    def test_something_too_many(self):
        for thing in NO_FIELDS + ["sea"]:
            if getattr(thing, "__hash__", None) is not None:
                try:
                    purses = {**EMPTY, thing: 0}
                except TypeError:
                    continue
                self.assert_no_purses(purses)

    def test_something_in_the_place_of_a_field(self):
        for thing in [None, 0, True, "", "west", "Mill", "mill ", "sea", ("mill",), b"mill", 1.5, object(), int]:
            self.assert_no_purses({"marsh": 0, "polder": 0, thing: 0})
            self.assert_no_purses({thing: 0, "polder": 0, "mill": 0})

    def test_no_fields_at_all(self):
        self.assert_no_purses({})


class TestPut(unittest.TestCase):
    def test_adds_to_the_one_purse(self):
        moot = Moot(sample(), {"marsh": 3, "polder": 0, "mill": 1})
        self.assertIsNone(moot.put("polder", 5))
        self.assertIsNone(moot.put("marsh", 7))
        self.assertIsNone(moot.put("polder", 6))
        self.assertEqual(list(moot.purses().items()), [("marsh", (10, 1)), ("polder", (11, 1)), ("mill", (1, 1))])
        self.assertEqual((rows_of(moot.land()), moot.done()), ((FIELDS, DYKES), []))

    def test_from_nought_to_the_most_and_beyond_it_together(self):
        moot = Moot(sample(), EMPTY)
        for coins, purse in [(0, 0), (MOST, MOST), (0, MOST), (1, MOST + 1), (MOST, 2 * MOST + 1)]:
            self.assertIsNone(moot.put("mill", coins))
            self.assertEqual(moot.purses(), {"marsh": (0, 1), "polder": (0, 1), "mill": (purse, 1)})

    def test_into_a_purse_that_holds_a_fraction(self):
        moot = Moot(sample(), dict(RICH, marsh=38))
        self.assertEqual(moot.move(["marsh", "mill"], 8, ["mill"]), 40)
        moot.put("marsh", 3)
        self.assertEqual(moot.purses(), {"marsh": (7, 2), "polder": (1000, 1), "mill": (1995, 2)})

    def test_what_is_no_field(self):
        for thing in NO_FIELDS:
            for coins in [5] + NO_COINS[:12] + [-1, MOST + 1]:
                moot = Moot(sample(), RICH)
                before = told(moot)
                assert_refused(self, NoVoice, moot.put, thing, coins)
                self.assertEqual(told(moot), before)

    def test_what_are_no_coins(self):
        for thing in NO_COINS:
            for field in RICH:
                moot = Moot(sample(), RICH)
                before = told(moot)
                assert_refused(self, NoPurse, moot.put, field, thing)
                self.assertEqual(told(moot), before)
                moot.put(field, 1)
                self.assertEqual(moot.purses()[field], (1001, 1))


class TestMove(unittest.TestCase):
    def test_raises_pays_and_tells(self):
        moot = Moot(sample(), RICH)
        coins = moot.move(["marsh", "mill"], 8, ["mill"])
        self.assertEqual(coins, 40)
        self.assertIs(type(coins), int)
        self.assertEqual(rows_of(moot.land()), rows_of(sample().raised([("west", 8)])))
        self.assertEqual(list(moot.purses().items()),
                         [("marsh", (1925, 2)), ("polder", (1000, 1)), ("mill", (1995, 2))])
        self.assertEqual(moot.done(), [(["marsh", "mill"], 8, 40)])
        self.assertEqual((type(moot.done()[0]), type(moot.done()[0][0])), (tuple, list))

    def test_the_wish_is_kept_behind_it_for_the_told_coins(self):
        for seed in range(80):
            land, numbers = some_land(seed, 5, 9), Numbers(seed)
            land = Land([row[:2] + (row[2] + 1,) for row in land.fields()], land.dykes())
            moot = Moot(land, full(land))
            names = [name for name in land.field_names() if numbers.below(2)] or land.field_names()[:1]
            coins = moot.move(names, 5, land.field_names())
            self.assertIs(keeps(moot.land(), names, 5), True)
            self.assertEqual(coins, fewest(land, names, 5)[0])
            raised = [(row[0], row[3]) for row in moot.land().dykes() if row not in land.dykes()]
            self.assertEqual(coins_of(land, raised), coins)
            self.assertTrue(all(height == 5 for name, height in raised))
            self.assertEqual(moot.land().fields(), land.fields())
            paid = [Fraction(MOST) - Fraction(*moot.purses()[name]) for name in land.field_names()]
            self.assertEqual(sum(paid), coins)

    def test_works_one_after_another(self):
        moot = Moot(sample(), RICH)
        self.assertEqual(moot.move(["marsh"], 6, ["mill"]), 20)
        self.assertEqual(moot.move(["mill", "marsh"], 8, ["mill", "mill"]), 20)
        moot.put("polder", 1)
        self.assertEqual(moot.move(["polder"], 7, ["mill", "polder"]), 0)
        self.assertEqual(moot.done(), [(["marsh"], 6, 20), (["mill", "marsh"], 8, 20), (["polder"], 7, 0)])
        self.assertEqual(moot.land().dyke("west"), ("west", "sea", "marsh", 8, 10, None))
        # Alone, mill would have paid 5 of the second work's 20 coins by its own dyke.
        self.assertEqual(moot.purses(), {"marsh": (1925, 2), "polder": (1001, 1), "mill": (1995, 2)})

    def test_a_wish_that_is_kept_already_is_done_all_the_same(self):
        moot = Moot(sample(), EMPTY)
        self.assertEqual(moot.move(["mill", "marsh", "polder"], 4, ["mill"]), 0)
        self.assertEqual(moot.move(["mill"], -TOP, ["mill"]), 0)
        self.assertEqual(told(moot), (FIELDS, DYKES, [(name, (0, 1)) for name in EMPTY],
                                      [(["mill", "marsh", "polder"], 4, 0), (["mill"], -TOP, 0)]))

    def test_a_wish_that_is_kept_already_needs_the_dues_too(self):
        moot = Moot(sample(), EMPTY)
        assert_refused(self, Outvoted, moot.move, ["mill"], -TOP, ["marsh"])
        self.assertEqual(moot.done(), [])

    def test_dykes_that_cost_nothing_are_raised_for_nothing(self):
        land = Land([("a", 0, 1)], [("b", "a", "sea", 2, 0, None)])
        moot = Moot(land, {"a": 0})
        self.assertEqual(moot.move(["a"], 5, ["a"]), 0)
        self.assertEqual(moot.land().dykes(), [("b", "a", "sea", 5, 0, None)])

    def test_eight_fields_and_nine(self):
        for names in [widest().field_names()[:8], widest().field_names()[11:3:-1]]:
            land = widest()
            moot = Moot(land, full(land))
            by_hand = shares(land, names, 140)
            self.assertEqual(moot.move(names, 140, land.field_names()), fewest(land, names, 140)[0])
            for name in land.field_names():
                paid = Fraction(MOST) - Fraction(*moot.purses()[name])
                self.assertEqual(paid, Fraction(*by_hand[name]) if name in by_hand else 0)
        moot = Moot(widest(), full(widest()))
        for names in [widest().field_names()[:9], widest().field_names()]:
            assert_refused(self, TooMany, moot.move, names, 140, widest().field_names())
        self.assertEqual(rows_of(moot.land()), rows_of(widest()))

    def test_lowest_and_highest_heights(self):
        land = Land([("a", -TOP, 1)], [("b", "a", "sea", TOP - 1, TOP, None)])
        moot = Moot(land, {"a": TOP})
        self.assertEqual(moot.move(["a"], -TOP, ["a"]), 0)
        self.assertEqual(moot.move(["a"], TOP, ["a"]), TOP)
        self.assertEqual(moot.purses(), {"a": (0, 1)})


class TestVotes(unittest.TestCase):
    def assert_vote(self, dues, yes, passes):
        land = voters(dues)
        moot = Moot(land, full(land))
        before = told(moot)
        if passes:
            self.assertEqual(moot.move(["a"], 3, yes), 2)
        else:
            assert_refused(self, Outvoted, moot.move, ["a"], 3, yes)
            self.assertEqual(told(moot), before)

    def test_half_of_the_dues_and_one_more(self):
        self.assert_vote([5, 5], ["a"], False)
        self.assert_vote([6, 5], ["a"], True)
        self.assert_vote([5, 6], ["a"], False)
        self.assert_vote([5, 4], ["a"], True)
        self.assert_vote([3, 2, 5], ["a", "b"], False)
        self.assert_vote([3, 3, 5], ["a", "b"], True)
        self.assert_vote([3, 2, 5], ["c"], False)
        self.assert_vote([3, 2, 6], ["c"], True)
        self.assert_vote([TOP, TOP], ["b"], False)
        self.assert_vote([TOP - 1, TOP], ["b"], True)

    def test_each_voice_counts_once(self):
        self.assert_vote([3, 4], ["a", "a"], False)
        self.assert_vote([3, 4], ["a", "a", "a"], False)
        self.assert_vote([3, 4], ["b", "b"], True)
        self.assert_vote([3, 4], ["b", "a", "b"], True)
        self.assert_vote([2, 2, 4], ["a", "b", "a", "b"], False)

    def test_fields_outside_the_wish_have_a_voice(self):
        self.assert_vote([0, 7], ["b"], True)
        self.assert_vote([1, 7], ["b"], True)
        self.assert_vote([7, 1], ["b"], False)

    def test_nobody_says_yes(self):
        self.assert_vote([3, 4], [], False)

    def test_no_dues_at_all(self):
        self.assert_vote([0, 0], ["a", "b"], False)
        self.assert_vote([0, 0], [], False)
        self.assert_vote([0, 1], ["a"], False)
        self.assert_vote([0, 1], ["b"], True)
        self.assert_vote([1], ["a"], True)
        self.assert_vote([0], ["a"], False)

    def test_all_votes_of_small_dues(self):
        for dues in itertools.product(range(4), repeat=3):
            for size in range(4):
                for yes in itertools.combinations("abc", size):
                    for_it = sum(due for name, due in zip("abc", dues) if name in yes)
                    self.assert_vote(list(dues), list(yes) * 2, for_it > sum(dues) - for_it)


class TestShort(unittest.TestCase):
    def assert_short(self, moot, field, fields, height, yes):
        before = told(moot)
        for turn in range(2):
            with self.assertRaises(Short) as caught:
                moot.move(fields, height, yes)
            self.assertIs(type(caught.exception), Short)
            self.assertEqual(caught.exception.field, field)
            self.assertEqual(told(moot), before)

    def test_just_what_the_purse_holds_and_one_less(self):
        for coins in [20, 21, MOST]:
            moot = Moot(sample(), dict(EMPTY, marsh=coins))
            self.assertEqual(moot.move(["marsh"], 6, ["mill"]), 20)
            self.assertEqual(moot.purses(), {"marsh": (coins - 20, 1), "polder": (0, 1), "mill": (0, 1)})
        for coins in [0, 1, 19]:
            self.assert_short(Moot(sample(), dict(RICH, marsh=coins)), "marsh", ["marsh"], 6, ["mill"])

    def test_a_share_between_two_whole_numbers(self):
        # The shares are 75/2 and 5/2.
        for marsh, mill, field in [(37, 3, "marsh"), (38, 2, "mill"), (37, 2, "marsh"), (38, 3, None)]:
            moot = Moot(sample(), {"marsh": marsh, "polder": 0, "mill": mill})
            if field:
                self.assert_short(moot, field, ["marsh", "mill"], 8, ["mill"])
            else:
                self.assertEqual(moot.move(["marsh", "mill"], 8, ["mill"]), 40)
                self.assertEqual(moot.purses(), {"marsh": (1, 2), "polder": (0, 1), "mill": (1, 2)})

    def test_a_fraction_that_is_just_the_share(self):
        land = Land([("a", -1, 1), ("b", -1, 1)], [("x", "sea", "a", 0, 1, None), ("y", "a", "b", 0, 9, None)])
        moot = Moot(land, {"a": 1, "b": 2})
        self.assertEqual(moot.move(["a", "b"], 1, ["a", "b"]), 1)
        self.assertEqual(moot.purses(), {"a": (1, 2), "b": (3, 2)})
        self.assertEqual(moot.move(["b", "a"], 2, ["a", "b"]), 1)
        self.assertEqual(moot.purses(), {"a": (0, 1), "b": (1, 1)})
        self.assert_short(moot, "a", ["b", "a"], 3, ["a", "b"])

    def test_the_first_one_in_the_wishs_order(self):
        land = voters([1, 1, 1])
        for order in itertools.permutations("abc"):
            for poor in [("a",), ("b",), ("c",), ("a", "b"), ("c", "b"), ("a", "c"), ("a", "b", "c")]:
                moot = Moot(land, dict((name, 1 if name in poor else 2) for name in "cab"))
                first = [name for name in order if name in poor][0]
                self.assert_short(moot, first, list(order), 3, ["a", "b"])

    def test_purses_of_other_fields_do_not_matter(self):
        moot = Moot(voters([1, 1, 1]), {"a": 2, "b": 0, "c": 0})
        self.assertEqual(moot.move(["a"], 3, ["b", "c"]), 2)

    def test_none_pays_for_another(self):
        moot = Moot(voters([1, 1]), {"a": 1, "b": MOST})
        self.assert_short(moot, "a", ["b", "a"], 3, ["a", "b"])
        moot.put("a", 1)
        self.assertEqual(moot.move(["b", "a"], 3, ["a", "b"]), 4)
        self.assertEqual(moot.purses(), {"a": (0, 1), "b": (MOST - 2, 1)})


class TestRefusals(unittest.TestCase):
    def assert_refusal(self, error, fields, height, yes, moot=None):
        moot = moot or Moot(sample(), RICH)
        before = told(moot)
        assert_refused(self, error, moot.move, fields, height, yes)
        self.assertEqual(told(moot), before)

    def test_no_wish(self):
        for thing in ANYTHING + ["marsh", ("marsh",), {"marsh": -3}, {"marsh"}, FIELDS[0], [FIELDS[0]], [["marsh"]],
                                 ["west"], [], ["marsh", "marsh"], ["mill", "marsh", "mill"]]:
            self.assert_refusal(NoWish, thing, 5, ["mill"])
            self.assert_refusal(NoWish, ["marsh", thing], 5, ["mill"])
        for thing in NO_HEIGHTS:
            self.assert_refusal(NoWish, ["marsh"], thing, ["mill"])

    def test_no_voice(self):
        for thing in NO_FIELDS:
            for yes in [[thing], ["mill", thing], [thing, "mill"], ["mill", thing, "mill"]]:
                self.assert_refusal(NoVoice, ["marsh"], 6, yes)

    def test_what_is_no_list_of_voices(self):
        for thing in [None, 0, "mill", ("mill",), {"mill": 1}, {"mill"}, (), {}, ""]:
            self.assert_refusal(NoVoice, ["marsh"], 6, thing)

    def test_in_their_order(self):
        land = widest()
        names = land.field_names()
        poor = Moot(land, full(land, 0))
        good, many, wrong = names[:8], names[:9], names[:8] + ["zz"]
        for fields, height in [(wrong, 140), (good, TOP + 1), (many, TOP + 1), ([], 140)]:
            for yes in [[None], ["zz"], ["a"], names, []]:
                self.assert_refusal(NoWish, fields, height, yes, poor)
        for fields in [good, many]:
            for yes in [[None], ["zz"], ["a", "sea"], names + [""], names + [0]]:
                self.assert_refusal(NoVoice, fields, 140, yes, poor)
        for yes in [[], ["a"], names]:
            self.assert_refusal(TooMany, many, 140, yes, poor)
        for yes in [[], ["a"], ["a", "b", "c"]]:
            self.assert_refusal(Outvoted, good, 140, yes, poor)
        self.assert_refusal(Short, good, 140, names, poor)
        rich = Moot(land, full(land))
        self.assertEqual(rich.move(good, 140, names), fewest(land, good, 140)[0])

    def test_all_may_be_asked_again(self):
        moot = Moot(sample(), EMPTY)
        for error, handed in [(NoWish, ([], 6, ["mill"])), (NoVoice, (["marsh"], 6, ["sea"])),
                              (Outvoted, (["marsh"], 6, ["marsh"])), (Short, (["marsh"], 6, ["mill"]))]:
            assert_refused(self, error, moot.move, *handed)
        moot.put("marsh", 20)
        self.assertEqual(moot.move(["marsh"], 6, ["mill"]), 20)


class TestManyMoots(unittest.TestCase):
    def refusal_by_hand(self, land, purses, fields, height, yes):
        """A plain reading of 10.2 for a wish, with voices that are all fields: a class and a field, or two Nones."""
        dues = dict((row[0], row[2]) for row in land.fields())
        for_it = sum(dues[name] for name in set(yes))
        if for_it <= sum(dues.values()) - for_it:
            return Outvoted, None
        for name, share in shares(land, fields, height).items():
            if purses[name] < Fraction(*share):
                return Short, name
        return None, None

    def test_plain_reading(self):
        found = {}
        for seed in range(120):
            land, numbers = some_land(seed, 5, 8), Numbers(seed)
            names = land.field_names()
            purses = dict((name, Fraction(numbers.below(90))) for name in names)
            moot, done = Moot(land, dict((name, int(purses[name])) for name in names)), []
            for turn in range(10):
                fields = sorted([name for name in names if numbers.below(2)], key=lambda name: numbers.below(9))
                fields, height = fields or names[-1:], numbers.between(-4, 12)
                yes = [names[numbers.below(len(names))] for part in range(numbers.below(9))]
                error, field = self.refusal_by_hand(moot.land(), purses, fields, height, yes)
                found[error] = found.get(error, 0) + 1
                if error is None:
                    before = moot.land()
                    coins = moot.move(fields, height, yes)
                    done.append((fields, height, coins))
                    for name, share in shares(before, fields, height).items():
                        purses[name] -= Fraction(*share)
                    self.assertEqual(coins, fewest(before, fields, height)[0])
                    self.assertEqual(rows_of(moot.land()), rows_of(before.raised(fewest(before, fields, height)[1])))
                else:
                    with self.assertRaises(error) as caught:
                        moot.move(fields, height, yes)
                    self.assertEqual(getattr(caught.exception, "field", None), field)
                self.assertEqual([(name, Fraction(*purse)) for name, purse in moot.purses().items()],
                                 list(purses.items()))
                self.assertTrue(all(purse >= 0 for purse in purses.values()))
                self.assertEqual(moot.done(), done)
                name, coins = names[numbers.below(len(names))], numbers.below(40)
                moot.put(name, coins)
                purses[name] += coins
        self.assertTrue(all(found.get(error, 0) > 50 for error in [Outvoted, Short, None]), found)

    def test_no_purse_is_ever_below_nought(self):
        for seed in range(40):
            land, numbers = some_land(seed, 12, 20), Numbers(seed)
            moot = Moot(land, dict((name, numbers.below(50)) for name in land.field_names()))
            for turn in range(6):
                try:
                    moot.move(land.field_names()[turn % 3:8], turn, land.field_names())
                except DykeError:
                    pass
                for purse in moot.purses().values():
                    self.assertIs(less(purse, (0, 1)), False)


class TestOwnValues(unittest.TestCase):
    def test_nothing_handed_in_is_changed(self):
        land, purses, fields, yes = sample(), dict(RICH), ["mill", "marsh"], ["mill", "mill"]
        moot = Moot(land, purses)
        moot.move(fields, 8, yes)
        moot.put("mill", 5)
        self.assertEqual((purses, fields, yes), (RICH, ["mill", "marsh"], ["mill", "mill"]))
        self.assertEqual(rows_of(land), (FIELDS, DYKES))

    def test_what_is_handed_in_may_be_changed_behind(self):
        purses, fields, yes = dict(RICH), ["mill", "marsh"], ["mill"]
        moot = Moot(sample(), purses)
        purses["mill"] = 0
        purses.pop("marsh")
        moot.move(fields, 8, yes)
        before = copy.deepcopy(told(moot))
        fields.append("polder")
        fields[0] = "zz"
        yes.clear()
        purses.clear()
        self.assertEqual(told(moot), before)
        self.assertEqual(moot.done(), [(["mill", "marsh"], 8, 40)])

    def test_told_lists_and_dicts_are_the_askers_own(self):
        moot = Moot(sample(), RICH)
        first = (moot.land(), moot.purses(), moot.done())
        moot.move(["mill", "marsh"], 8, ["mill"])
        moot.put("polder", 1)
        self.assertEqual(rows_of(first[0]), (FIELDS, DYKES))
        self.assertEqual(first[1:], ({"marsh": (1000, 1), "polder": (1000, 1), "mill": (1000, 1)}, []))
        before = copy.deepcopy(told(moot))
        moot.purses()["mill"] = (0, 1)
        moot.purses().clear()
        moot.done()[0][0].append("polder")
        moot.done()[0][0][0] = "zz"
        moot.done().clear()
        moot.land().fields().clear()
        moot.land().dykes().clear()
        self.assertEqual(told(moot), before)

    def test_what_was_told_stays_as_it_was(self):
        moot = Moot(sample(), RICH)
        moot.move(["marsh"], 6, ["mill"])
        land, purses, done = moot.land(), moot.purses(), moot.done()
        before = copy.deepcopy((rows_of(land), purses, done))
        moot.move(["marsh", "mill"], 9, ["mill"])
        moot.put("mill", 7)
        self.assertEqual((rows_of(land), purses, done), before)

    def test_two_moots_of_one_land(self):
        land = sample()
        one, other = Moot(land, RICH), Moot(land, RICH)
        before = told(other)
        one.move(["marsh"], 6, ["mill"])
        one.put("mill", 5)
        self.assertEqual(told(other), before)

    def test_a_square(self):
        land = Land([row[:2] + (1,) for row in square().fields()], square().dykes())
        moot = Moot(land, full(land, 30))
        self.assertEqual(moot.move(["b", "d", "a"], 10, ["a", "d", "hill"]), 33)
        self.assertEqual(moot.purses(), {"a": (39, 2), "b": (18, 1), "d": (39, 2), "hill": (30, 1)})
        self.assertEqual(moot.move(["d"], 10, ["a", "b", "d"]), 0)


if __name__ == "__main__":
    unittest.main()
