"""What several tests need: lands to look at, plain readings, wrong things of every kind, and a check of refusals."""

import itertools

from dykemoot.decrees import holds
from dykemoot.lands import Land


class EqualToAll:
    """Calls itself equal to everything, so a check by `==` or `in` alone takes it for a name."""

    def __eq__(self, other):
        return True

    def __hash__(self):
        return hash("a")


class EmptyLike(EqualToAll):
    def __len__(self):
        return 0

    def __iter__(self):
        return iter(())


def endless_list():
    rows = []
    rows.append(rows)
    return rows


ANYTHING = [
    None, True, False, 0, 1, -1, 10 ** 30, 0.0, 1.0, 1.5, float("nan"), float("inf"), 1j,
    "", "a", "sea", "zz", "A", " ", "0", "\n", b"", b"a",
    [], [None], [0], ["a"], ["zz"], [[]], [()], endless_list(),
    (), (None,), (0,), ("a",), ("a", 0), ("a", 0, 0), ((),),
    {}, {"a": 0}, {0: 0}, {"a": ("a", 0, 0)}, set(), {"a"}, frozenset({"a"}), range(0), range(2), iter([]),
    object(), int, str, len, EqualToAll(), EmptyLike(), ValueError("a"),
]


def seen(thing):
    """How a thing looks now, a land by its rows, to be compared later on."""
    return repr((thing.fields(), thing.dykes()) if isinstance(thing, Land) else thing)


def assert_refused(case, error, deed, *handed):
    """Just this class, twice alike, and what was handed in is as it was."""
    before = [seen(thing) for thing in handed]
    for _ in range(2):
        try:
            told = deed(*handed)
        except ValueError as refusal:
            case.assertIs(type(refusal), error, handed)
        else:
            case.fail(f"not refused: {handed!r}, but told {told!r}")
    case.assertEqual([seen(thing) for thing in handed], before)


class Numbers:
    """Numbers in a fixed row that looks mixed: the same in each run and under each Python."""

    def __init__(self, seed):
        self.state = seed

    def below(self, bound):
        self.state = (self.state * 6364136223846793005 + 1442695040888963407) % 2 ** 64
        return (self.state >> 33) % bound

    def between(self, least, most):
        return least + self.below(most - least + 1)


def letters(number):
    """A name for each number: a, b, .. z, ba, bb, .."""
    return ("" if number < 26 else letters(number // 26)) + chr(ord("a") + number % 26)


def some_dyke(numbers, name, sides, spread):
    one = sides[numbers.below(len(sides))]
    other = [side for side in sides if side != one][numbers.below(len(sides) - 1)]
    crown = numbers.between(-spread, spread)
    sill = crown - numbers.between(1, spread) if numbers.below(2) else None
    return (name, one, other, crown, numbers.below(10), sill)


def some_land(seed, most_fields=6, most_dykes=10, spread=6):
    """A land of the fixed row, with low numbers so that many heights are alike."""
    numbers = Numbers(seed)
    fields = [(letters(place), numbers.between(-spread, spread), numbers.below(100))
              for place in range(numbers.between(1, most_fields))]
    sides = ["sea"] + [field[0] for field in fields]
    dykes = [some_dyke(numbers, letters(place), sides, spread)
             for place in range(numbers.between(1, most_dykes))]
    return Land(fields, dykes)


def sets_of_sluices(land):
    names = land.sluices()[:4]
    return [list(some) for size in range(len(names) + 1) for some in itertools.combinations(names, size)]


def stand(row, opened):
    return row[5] if row[0] in opened else row[3]


def ways_on(land, here="sea", been=()):
    """Each way on the land as (dykes, fields that it leads to), by walking every one of them."""
    found = []
    for row in land.dykes():
        if here in row[1:3]:
            there = row[2] if here == row[1] else row[1]
            if there != "sea" and there not in been:
                found.append(([row[0]], [there]))
                for way, fields in ways_on(land, there, been + (there,)):
                    found.append(([row[0]] + way, [there] + fields))
    return found


def height_by_hand(land, opened, way, fields):
    return max([stand(land.dyke(name), opened) for name in way] + [land.ground(name) for name in fields])


def floods_by_hand(land, opened):
    """The flood heights, by the height of each way."""
    least = dict.fromkeys(land.field_names())
    for way, fields in ways_on(land):
        height = height_by_hand(land, opened, way, fields)
        if least[fields[-1]] is None or height < least[fields[-1]]:
            least[fields[-1]] = height
    return least


def opened_by_hand(land, decrees, opened, level, wet, day):
    """A plain reading of 5.3: each sluice by itself."""
    told = []
    for dyke in land.sluices():
        said = [row[0] for row in decrees if row[1] == dyke and holds(row, level, wet, day)]
        if said[-1] == "open" if said else dyke in opened:
            told.append(dyke)
    return told


def day_by_hand(land, decrees, before, level, day):
    """A plain reading of 6.1, from (opened, wet) of the day before."""
    opened = opened_by_hand(land, decrees, before[0], level, before[1], day)
    heights = floods_by_hand(land, opened)
    wet = []
    for field in land.field_names():
        reached = heights[field] is not None and heights[field] < level
        falls_dry = heights[field] == land.ground(field) and level <= land.ground(field)
        if reached or field in before[1] and not falls_dry:
            wet.append(field)
    return (opened, wet)


def least_by_trying(land, fields, height):
    """The fewest coins of any dykes, raised to the height, that stand on each low way to the wish."""
    low = [set(way) for way, along in ways_on(land)
           if along[-1] in fields and height_by_hand(land, [], way, along) < height]
    rows = [row for row in land.dykes() if row[3] < height]
    found = []
    for size in range(len(rows) + 1):
        for some in itertools.combinations(rows, size):
            if all(way & {row[0] for row in some} for way in low):
                found.append(sum(row[4] * (height - row[3]) for row in some))
    return min(found)


def some_condition(numbers, land, spread=6):
    field = land.field_names()[numbers.below(len(land.field_names()))]
    turn = numbers.between(1, 4)
    return [("always",), ("above", numbers.between(-spread, spread)), ("below", numbers.between(-spread, spread)),
            ("wet", field), ("dry", field), ("day", numbers.below(turn), turn)][numbers.below(6)]


def some_decrees(seed, land, most=8):
    """Decrees of the fixed row; none where the land has no sluice."""
    numbers = Numbers(seed)
    sluices = land.sluices()
    return [(["open", "shut"][numbers.below(2)], sluices[numbers.below(len(sluices))],
             [some_condition(numbers, land) for _ in range(numbers.between(1, 3))])
            for _ in range(numbers.below(most + 1) if sluices else 0)]


FIELDS = [("marsh", -3, 7), ("polder", 2, 0), ("mill", 5, 1000000)]
DYKES = [
    ("west", "sea", "marsh", 4, 10, None),
    ("gate", "polder", "sea", 9, 0, -2),
    ("marsh", "marsh", "polder", 6, 3, 5),
    ("lock", "mill", "marsh", 3, 1, 2),
]


def sample():
    """Three fields, each with a way; a dyke that has a field's name; sluices in three of four dykes."""
    return Land(list(FIELDS), list(DYKES))


def widest():
    """Twelve fields in a chain from the sea and forty dykes, the farthest ones told first."""
    fields = [(letters(place), place, place) for place in range(12)]
    chain = [("sea", "a")] + [(letters(place), letters(place + 1)) for place in range(11)]
    pairs = [chain[place % 12] for place in range(40)]
    dykes = [(letters(place), pair[0], pair[1], 100 + place, place, place)
             for place, pair in enumerate(pairs)]
    return Land(fields, list(reversed(dykes)))


def square():
    """Two ways from the sea to d, with a dyke between them, and a hill that no wish below 50 goes over."""
    fields = [("a", 0, 1), ("b", 0, 1), ("d", 0, 1), ("hill", 50, 1)]
    dykes = [
        ("sa", "sea", "a", 4, 3, None),
        ("sb", "b", "sea", 7, 5, 1),
        ("ab", "a", "b", 9, 1, None),
        ("ad", "d", "a", 8, 10, 2),
        ("bd", "b", "d", 2, 1, None),
        ("sh", "sea", "hill", 0, 1, None),
        ("hd", "hill", "d", 0, 1, None),
        ("high", "sea", "d", 10, 1, 0),
    ]
    return Land(fields, dykes)
