"""What companies of fields cost, and what they save by one another [8.1, 8.2]."""

from dykemoot.coins import check_wish, fewest
from dykemoot.errors import NoWish, TooMany
from dykemoot.lands import is_height

MOST_IN_A_WISH = 8


# A company of none is no wish, so its height is looked at here.
def cost_of_none(height):
    if not is_height(height):
        raise NoWish("a company of none needs a height, too")
    return 0


def cost(land, fields, height):
    if isinstance(fields, list) and len(fields) == 0:
        return cost_of_none(height)
    return fewest(land, fields, height)[0]


def saved(land, one, other, height):
    apart = cost(land, one, height) + cost(land, other, height)
    either = one + [name for name in other if name not in one]
    both = [name for name in one if name in other]
    return apart - cost(land, either, height) - cost(land, both, height)


def lists_of_places(count):
    lists = [[]]
    for place in range(count):
        lists = lists + [some + [place] for some in lists]
    return sorted(lists, key=lambda some: (len(some), some))


def companies(land, fields, height):
    check_wish(land, fields, height)
    if len(fields) > MOST_IN_A_WISH:
        raise TooMany("the wish has too many fields to tell all its companies")
    told = []
    for places in lists_of_places(len(fields)):
        company = [fields[place] for place in places]
        told.append((company, cost(land, company, height)))
    return told
