"""The desk: it is told rows, one at a time, and answers each with a text [11.1]."""

from dykemoot.coins import fewest
from dykemoot.companies import cost
from dykemoot.decrees import read_decrees
from dykemoot.errors import NoLand, NoName
from dykemoot.floods import flood_heights
from dykemoot.lands import is_one_of
from dykemoot.moots import Moot
from dykemoot.rings import ring_round, way_to
from dykemoot.rows import read_row
from dykemoot.seasons import Season
from dykemoot.shares import shares
from dykemoot.texts import read_land, show_land


# The land is handed to a stage only with words that are its fields, so this refusal comes ahead of the stage's own.
def land_with(desk, names):
    land = desk.moot.land()
    known = land.field_names()
    if not all([is_one_of(name, known) for name in names]):
        raise NoName("a word is no field of the land")
    return land


def show_fraction(part):
    return str(part[0]) if part[1] == 1 else "/".join([str(number) for number in part])


def show_fractions(parts):
    return "; ".join([" ".join([name, show_fraction(parts[name])]) for name in parts])


# A text that writes no land or no decrees is refused while it is read, so nothing is at the desk by half.
def take_land(desk, parts):
    land = read_land(parts[0])
    desk.moot = Moot(land, dict([(name, 0) for name in land.field_names()]))
    desk.season = Season(land, [])
    return "ok"


def take_decrees(desk, parts):
    land = desk.moot.land()
    desk.season = Season(land, read_decrees(land, parts[0]))
    return "ok"


def take_day(desk, parts):
    told = desk.season.day(parts[0])
    return " ".join(["open"] + told[0] + ["|", "wet"] + told[1])


def take_coins(desk, parts):
    desk.moot.put(parts[0], parts[1])
    return "ok"


def take_move(desk, parts):
    coins = desk.moot.move(parts[1], parts[0], parts[2])
    desk.season = desk.season.onto(desk.moot.land())
    return str(coins)


def tell_height(desk, parts):
    land = land_with(desk, parts)
    height = flood_heights(land, desk.season.opened())[parts[0]]
    return "never" if height is None else str(height)


def tell_way(desk, parts):
    land = land_with(desk, parts)
    way = way_to(land, desk.season.opened(), parts[0])
    return "never" if way is None else " ".join(way)


def tell_ring(desk, parts):
    land = land_with(desk, parts)
    return " ".join(ring_round(land, desk.season.opened(), parts[0]))


def tell_cost(desk, parts):
    land = land_with(desk, parts[1])
    return str(cost(land, parts[1], parts[0]))


def tell_works(desk, parts):
    land = land_with(desk, parts[1])
    works = fewest(land, parts[1], parts[0])[1]
    return "; ".join([" ".join([work[0], str(work[1])]) for work in works])


def tell_shares(desk, parts):
    land = land_with(desk, parts[1])
    return show_fractions(shares(land, parts[1], parts[0]))


def tell_purses(desk, parts):
    return show_fractions(desk.moot.purses())


def tell_land(desk, parts):
    return show_land(desk.moot.land()).replace("\n", " ; ")


ANSWERS = {
    "land": take_land, "decrees": take_decrees, "day": take_day, "height": tell_height, "way": tell_way,
    "ring": tell_ring, "cost": tell_cost, "works": tell_works, "shares": tell_shares, "put": take_coins,
    "move": take_move, "purses": tell_purses, "show": tell_land,
}


class Desk:

    def __init__(self):
        self.moot = None
        self.season = None

    def say(self, row):
        told = read_row(row)
        if told[0] != "land" and self.moot is None:
            raise NoLand("no land was told yet")
        return ANSWERS[told[0]](self, told[1])
