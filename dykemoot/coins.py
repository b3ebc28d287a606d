"""Wishes, the coins of works, the fewest coins that keep a wish, and papers for them [7.1, 7.2, 7.3]."""

from dykemoot.errors import NoWish, NoWork
from dykemoot.floods import flood_heights
from dykemoot.lands import SEA, are_some_fields, are_works, is_height, is_one_of, is_tuple_of, is_whole
from dykemoot.steps import path_to, spread


def check_wish(land, fields, height):
    if not are_some_fields(land, fields) or not is_height(height):
        raise NoWish("this is no wish of the land's fields")


def keeps(land, fields, height):
    check_wish(land, fields, height)
    heights = flood_heights(land, [])
    return all([heights[name] is None or heights[name] >= height for name in fields])


def coins_to(dyke, height):
    return dyke[4] * (height - dyke[3])


def coins_of(land, works):
    if not are_works(land, works):
        raise NoWork("these are no works on the land's dykes")
    return sum([coins_to(land.dyke(work[0]), work[1]) for work in works])


def is_low(land, side, height):
    return side == SEA or land.ground(side) < height


def is_gap(land, dyke, height):
    return dyke[3] < height and is_low(land, dyke[1], height) and is_low(land, dyke[2], height)


# What each gap costs to raise, which is also the most that a stream takes over it.
def gap_coins(land, height):
    return dict([(dyke[0], coins_to(dyke, height)) for dyke in land.dykes() if is_gap(land, dyke, height)])


# Steps (dyke, near, far, sign): the sign is that of the amount of a stream which goes so.
def steps_over(land, names):
    steps = []
    for name in names:
        dyke = land.dyke(name)
        steps.append((name, dyke[1], dyke[2], 1))
        steps.append((name, dyke[2], dyke[1], -1))
    return steps


# Against a stream there is more room than the most: it is taken back first, then turned.
def room(step, most, stream):
    return most[step[0]] - step[3] * stream[step[0]]


def reached(steps, most, stream):
    return spread([SEA], [step for step in steps if room(step, most, stream) > 0])


# To the field of the wish that is come to first, so no path has fewer steps.
def path_with_room(steps, most, stream, fields):
    came = reached(steps, most, stream)
    ends = [side for side in came if side in fields]
    return path_to(came, ends[0]) if ends else []


# Since each path has the fewest steps that one can have then, the rounds are few, however great the amounts.
def fullest_stream(steps, most, fields):
    stream = dict([(name, 0) for name in most])
    path = path_with_room(steps, most, stream, fields)
    while path:
        amount = min([room(step, most, stream) for step in path])
        for step in path:
            stream[step[0]] += step[3] * amount
        path = path_with_room(steps, most, stream, fields)
    return stream


# The gaps round what the stream has room to reach are full, so they cost together what it brings. Those of them
# behind which no gap leads on to the wish are full with nothing, so they cost nothing: they are left as they are.
def works_round(steps, flowed, fields, height):
    behind = spread(fields, [step for step in steps if step[2] not in flowed])
    return [(step[0], height) for step in steps if step[1] in flowed and step[2] in behind]


def fewest(land, fields, height):
    check_wish(land, fields, height)
    most = gap_coins(land, height)
    steps = steps_over(land, most)
    stream = fullest_stream(steps, most, fields)
    works = works_round(steps, reached(steps, most, stream), fields, height)
    amounts = [(name, stream[name]) for name in stream if stream[name] != 0]
    return (coins_of(land, works), works, amounts)


def is_flow(thing, most):
    if not is_tuple_of(thing, 2) or not is_one_of(thing[0], most) or not is_whole(thing[1]):
        return False
    return 0 < abs(thing[1]) <= most[thing[0]]


def is_stream(thing, most):
    if not isinstance(thing, list) or not all([is_flow(flow, most) for flow in thing]):
        return False
    names = [flow[0] for flow in thing]
    # The gaps lie in the order of dykes, so this shows a wrong order, and a dyke that comes twice, too.
    return names == [name for name in most if name in names]


# How much more goes into each side than goes out of it.
def gains_by(land, stream):
    gains = dict([(side, 0) for side in [SEA] + land.field_names()])
    for name, amount in stream:
        dyke = land.dyke(name)
        gains[dyke[1]] -= amount
        gains[dyke[2]] += amount
    return gains


def paper_for(land, fields, height, stream):
    check_wish(land, fields, height)
    if not is_stream(stream, gap_coins(land, height)):
        return None
    gains = gains_by(land, stream)
    others = [name for name in land.field_names() if name not in fields]
    if any([gains[name] != 0 for name in others]) or any([gains[name] < 0 for name in fields]):
        return None
    return sum([gains[name] for name in fields])
