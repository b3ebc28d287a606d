"""Stands of dykes and flood heights of fields, with some sluices open [3.1, 3.2]."""

from dykemoot.errors import NoSluice
from dykemoot.lands import MOST_HEIGHT, SEA, is_one_of


def check_sluices(land, thing):
    sluices = land.sluices()
    if not isinstance(thing, list) or not all([is_one_of(name, sluices) for name in thing]):
        raise NoSluice("these are no dykes with a sluice")


def stands(land, opened):
    check_sluices(land, opened)
    return dict([(dyke[0], dyke[5] if dyke[0] in opened else dyke[3]) for dyke in land.dykes()])


# A way never leads back to the sea, so the steps (dyke, near, far, height) are those that lead to fields.
def steps_inland(land, stand_of):
    steps = []
    for dyke in land.dykes():
        for near, far in [(dyke[1], dyke[2]), (dyke[2], dyke[1])]:
            if far != SEA:
                steps.append((dyke[0], near, far, max(stand_of[dyke[0]], land.ground(far))))
    return steps


def flood_heights(land, opened):
    steps = steps_inland(land, stands(land, opened))
    # No height is lower than the sea's here, so it adds nothing to the height of a way.
    lowest = {SEA: -MOST_HEIGHT}
    # No way has more dykes than there are fields, so as many rounds find the lowest one.
    for turn in range(len(land.field_names())):
        for name, near, far, height in steps:
            if near in lowest:
                reached = max(lowest[near], height)
                lowest[far] = min(reached, lowest.get(far, reached))
    return dict([(name, lowest.get(name)) for name in land.field_names()])
