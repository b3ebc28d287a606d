"""Ways to fields, rings round them, and the fields that the sea floods [4.1, 4.2, 4.3]."""

from dykemoot.errors import NoRing, NoWay
from dykemoot.floods import flood_heights, stands, steps_inland
from dykemoot.lands import SEA, are_some_fields, is_one_of
from dykemoot.steps import path_to, spread


# No way is lower than the flood height, so any way by steps no higher than it has just this height.
def way_to(land, opened, field):
    height = flood_heights(land, opened)[field]
    if height is None:
        return None
    steps = [step for step in steps_inland(land, stands(land, opened)) if step[3] <= height]
    return [step[0] for step in path_to(spread([SEA], steps), field)]


def are_dyke_names(land, thing):
    names = land.dyke_names()
    return isinstance(thing, list) and all([is_one_of(name, names) for name in thing])


def other_side(dyke, side):
    return dyke[2] if side == dyke[1] else dyke[1]


# The fields to which dykes lead one after another from the sea; None where they are no way.
def fields_along(land, names):
    here = SEA
    fields = []
    for name in names:
        dyke = land.dyke(name)
        if here not in dyke[1:3]:
            return None
        here = other_side(dyke, here)
        if here == SEA or here in fields:
            return None
        fields.append(here)
    return fields


def way_height(land, opened, field, way):
    stand_of = stands(land, opened)
    fields = fields_along(land, way) if are_dyke_names(land, way) else None
    # A slice, since a list of no dykes leads to no last field.
    if fields is None or fields[-1:] != [field]:
        raise NoWay("this is no way to the field")
    return max([stand_of[name] for name in way] + [land.ground(name) for name in fields])


# A dyke from a field that floods lower into one that does not has a stand, or a ground behind it, no lower than
# the flood height: else the field behind it would flood lower, too.
def ring_round(land, opened, field):
    heights = flood_heights(land, opened)
    least = heights[field]
    if least is None:
        return [name for name in heights if heights[name] is None]
    return [name for name in heights if heights[name] is None or heights[name] >= least]


def kept_out(land, opened, ring):
    stand_of = stands(land, opened)
    if not are_some_fields(land, ring):
        raise NoRing("this is no ring of the land's fields")
    steps = steps_inland(land, stand_of)
    return min([step[3] for step in steps if step[1] not in ring and step[2] in ring], default=None)


def flooded(land, opened, level):
    heights = flood_heights(land, opened)
    return [name for name in heights if heights[name] is not None and heights[name] < level]
