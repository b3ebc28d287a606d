"""The moot: the fields vote by dues on the next work, and pay it out of their purses [10.1, 10.2, 10.3]."""

from dykemoot.coins import check_wish, fewest
from dykemoot.errors import NoPurse, NoVoice, Outvoted, Short
from dykemoot.lands import is_one_of, is_whole
from dykemoot.shares import fraction, less, minus, plus, shares

MOST_COINS = 1000000000000


def are_coins(thing):
    return is_whole(thing) and 0 <= thing <= MOST_COINS


def are_purses(land, thing):
    names = land.field_names()
    # A dict has no key twice, so as many keys that are all fields are all the fields.
    if not isinstance(thing, dict) or len(thing) != len(names):
        return False
    return all([is_one_of(name, names) and are_coins(coins) for name, coins in thing.items()])


def check_voices(land, yes):
    names = land.field_names()
    if not isinstance(yes, list) or not all([is_one_of(name, names) for name in yes]):
        raise NoVoice("these are no fields that say yes")


# Walked are the land's fields, so one that says yes twice counts once.
def check_dues(land, yes):
    names = land.field_names()
    for_it = sum([land.dues(name) for name in names if name in yes])
    if 2 * for_it <= sum([land.dues(name) for name in names]):
        raise Outvoted("not more than half of the dues say yes")


def check_purses(purse_of, share_of):
    for name in share_of:
        if less(purse_of[name], share_of[name]):
            raise Short(name)


class Moot:

    def __init__(self, land, purses):
        if not are_purses(land, purses):
            raise NoPurse("these are no purses of the land's fields")
        self.land_now = land
        self.purse_of = dict([(name, fraction(purses[name], 1)) for name in land.field_names()])
        self.works_done = []

    # All that may refuse stands ahead of the first change.
    def move(self, fields, height, yes):
        land = self.land_now
        check_wish(land, fields, height)
        check_voices(land, yes)
        share_of = shares(land, fields, height)
        check_dues(land, yes)
        check_purses(self.purse_of, share_of)
        told = fewest(land, fields, height)
        self.land_now = land.raised(told[1])
        for name in share_of:
            self.purse_of[name] = minus(self.purse_of[name], share_of[name])
        self.works_done.append((list(fields), height, told[0]))
        return told[0]

    def put(self, field, coins):
        if not is_one_of(field, self.land_now.field_names()):
            raise NoVoice("this is no field with a purse")
        if not are_coins(coins):
            raise NoPurse("these are no coins to put into a purse")
        self.purse_of[field] = plus(self.purse_of[field], fraction(coins, 1))

    def land(self):
        return self.land_now

    def purses(self):
        return dict(self.purse_of)

    # The fields of a work are a list, which the asker may change: so it is copied, too.
    def done(self):
        return [(list(work[0]), work[1], work[2]) for work in self.works_done]
