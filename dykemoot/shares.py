"""Fractions, and the shares of the fields of a wish in what it costs [9.1, 9.2]."""

from dykemoot.companies import companies


def greatest_divisor(one, other):
    while other != 0:
        rest = one % other
        one = other
        other = rest
    return one


def fraction(top, bottom):
    divisor = greatest_divisor(abs(top), bottom)
    return (top // divisor, bottom // divisor)


def plus(one, other):
    return fraction(one[0] * other[1] + other[0] * one[1], one[1] * other[1])


def minus(one, other):
    return plus(one, (-other[0], other[1]))


def less(one, other):
    return one[0] * other[1] < other[0] * one[1]


def orders_of(count):
    product = 1
    for number in range(1, count + 1):
        product *= number
    return product


# How many orders of all have just so many, told ones, ahead of a field: these stand in any order, and so do the others.
def orders_behind(ahead, count):
    return orders_of(ahead) * orders_of(count - ahead - 1)


# A field's step hangs only on who is ahead of it, not on their order: so each company ahead counts for many orders.
def share_of(field, fields, costs):
    total = 0
    for company in costs:
        if field not in company:
            joined = tuple([name for name in fields if name == field or name in company])
            total += orders_behind(len(company), len(fields)) * (costs[joined] - costs[company])
    return fraction(total, orders_of(len(fields)))


def shares(land, fields, height):
    costs = dict([(tuple(row[0]), row[1]) for row in companies(land, fields, height)])
    return dict([(field, share_of(field, fields, costs)) for field in fields])
