"""What whole numbers, names and heights are, and the lands [0.2, 1.1, 1.2]."""

from dykemoot.errors import NoLand, NoWork

SEA = "sea"
LETTERS = "abcdefghijklmnopqrstuvwxyz"
MOST_LETTERS = 8
MOST_HEIGHT = 1000000
MOST_AMOUNT = 1000000
MOST_FIELDS = 12
MOST_DYKES = 40


def is_whole(thing):
    return isinstance(thing, int) and not isinstance(thing, bool)


def is_name(thing):
    if not isinstance(thing, str) or not 1 <= len(thing) <= MOST_LETTERS:
        return False
    return thing != SEA and all([sign in LETTERS for sign in thing])


def is_height(thing):
    return is_whole(thing) and -MOST_HEIGHT <= thing <= MOST_HEIGHT


# Dues and rates have the same bounds.
def is_amount(thing):
    return is_whole(thing) and 0 <= thing <= MOST_AMOUNT


def is_one_of(thing, names):
    # The kind is asked first: a thing of another kind may call itself equal to a name.
    return isinstance(thing, str) and thing in names


def is_list_of(thing, most):
    return isinstance(thing, list) and 1 <= len(thing) <= most


def is_tuple_of(thing, length):
    return isinstance(thing, tuple) and len(thing) == length


# Fields, dykes and works all have their name first.
def none_twice(rows):
    return len(set([row[0] for row in rows])) == len(rows)


def is_field(thing):
    if not is_tuple_of(thing, 3):
        return False
    return is_name(thing[0]) and is_height(thing[1]) and is_amount(thing[2])


def are_fields(thing):
    return is_list_of(thing, MOST_FIELDS) and all([is_field(row) for row in thing]) and none_twice(thing)


def are_sides(one, other, sides):
    return is_one_of(one, sides) and is_one_of(other, sides) and one != other


def is_sill(thing, crown):
    return thing is None or (is_height(thing) and thing < crown)


def is_dyke(thing, sides):
    if not is_tuple_of(thing, 6) or not is_name(thing[0]) or not are_sides(thing[1], thing[2], sides):
        return False
    return is_height(thing[3]) and is_amount(thing[4]) and is_sill(thing[5], thing[3])


def are_dykes(thing, sides):
    return is_list_of(thing, MOST_DYKES) and all([is_dyke(row, sides) for row in thing]) and none_twice(thing)


def is_work(land, thing):
    if not is_tuple_of(thing, 2) or not is_one_of(thing[0], land.dyke_names()):
        return False
    return is_height(thing[1]) and thing[1] >= land.dyke(thing[0])[3]


def are_works(land, thing):
    return isinstance(thing, list) and all([is_work(land, row) for row in thing]) and none_twice(thing)


# Rings, wishes and companies are all told so.
def are_some_fields(land, thing):
    names = land.field_names()
    if not is_list_of(thing, len(names)) or not all([is_one_of(name, names) for name in thing]):
        return False
    return len(set(thing)) == len(thing)


def with_crown(dyke, crown):
    return dyke[:3] + (crown,) + dyke[4:]


# A dict keeps the told order, so the rows can lie under their names.
class Land:

    def __init__(self, fields, dykes):
        if not are_fields(fields):
            raise NoLand("these are no fields of a land")
        if not are_dykes(dykes, [SEA] + [field[0] for field in fields]):
            raise NoLand("these are no dykes of a land")
        self.field_rows = dict([(field[0], field) for field in fields])
        self.dyke_rows = dict([(dyke[0], dyke) for dyke in dykes])

    def fields(self):
        return list(self.field_rows.values())

    def dykes(self):
        return list(self.dyke_rows.values())

    def field_names(self):
        return list(self.field_rows)

    def dyke_names(self):
        return list(self.dyke_rows)

    def sluices(self):
        return [dyke[0] for dyke in self.dykes() if dyke[5] is not None]

    def ground(self, field):
        return self.field_rows[field][1]

    def dues(self, field):
        return self.field_rows[field][2]

    def dyke(self, name):
        return self.dyke_rows[name]

    def raised(self, works):
        if not are_works(self, works):
            raise NoWork("these are no works on the land's dykes")
        crowns = dict(works)
        dykes = [with_crown(dyke, crowns.get(dyke[0], dyke[3])) for dyke in self.dykes()]
        return Land(self.fields(), dykes)
