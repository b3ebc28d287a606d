"""Seasons: days one by one, the sluices that stand open and the fields that are wet [6.1, 6.2]."""

from dykemoot.decrees import check_decrees, copied, opened_by
from dykemoot.errors import NoLevel
from dykemoot.floods import flood_heights
from dykemoot.lands import is_height


# Where the level is no higher than the flood height, water of the days before stays, but on a field whose own ground
# is the highest thing on its way to the sea.
def is_wet(height, ground, level, was_wet):
    if height is not None and height < level:
        return True
    return was_wet and height != ground


def wet_fields(land, opened, level, before):
    heights = flood_heights(land, opened)
    return [name for name in heights if is_wet(heights[name], land.ground(name), level, name in before)]


class Season:

    def __init__(self, land, decrees):
        check_decrees(land, decrees)
        self.on_land = land
        self.own_decrees = copied(decrees)
        self.open_names = []
        self.wet_names = []
        self.day_count = 0
        self.wet_counts = dict([(name, 0) for name in land.field_names()])

    def day(self, level):
        if not is_height(level):
            raise NoLevel("this is no level of the sea")
        land = self.on_land
        self.open_names = opened_by(
            land, self.own_decrees, self.open_names, level, self.wet_names, self.day_count)
        self.wet_names = wet_fields(land, self.open_names, level, self.wet_names)
        self.day_count += 1
        for name in self.wet_names:
            self.wet_counts[name] += 1
        return (self.opened(), self.wet())

    def days(self, levels):
        if not isinstance(levels, list) or not all([is_height(level) for level in levels]):
            raise NoLevel("these are no levels of the sea")
        told = []
        for level in levels:
            told.append(self.day(level))
        return told

    def opened(self):
        return list(self.open_names)

    def wet(self):
        return list(self.wet_names)

    def count(self):
        return self.day_count

    def wet_days(self):
        return dict(self.wet_counts)

    def onto(self, land):
        season = Season(land, self.own_decrees)
        season.open_names = self.opened()
        season.wet_names = self.wet()
        season.day_count = self.day_count
        season.wet_counts = self.wet_days()
        return season
