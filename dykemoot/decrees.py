"""Decrees, decrees as texts, and the sluices that they open and shut [5.1, 5.2, 5.3]."""

from dykemoot.errors import NoDecree, NoText
from dykemoot.floods import check_sluices
from dykemoot.lands import is_height, is_list_of, is_one_of, is_tuple_of, is_whole
from dykemoot.texts import number_of

DEEDS = ("open", "shut")
TIDES = ("above", "below")
WATERS = ("wet", "dry")
MOST_DECREES = 60
MOST_CONDITIONS = 6
MOST_ROUND = 100
# How many words each condition has, by its first one; only so a field called and is told from the word between.
WORD_COUNTS = {"always": 1, "sea": 3, "wet": 2, "dry": 2, "day": 4}


def is_day_of(number, turn):
    return is_whole(number) and is_whole(turn) and 1 <= turn <= MOST_ROUND and 0 <= number < turn


def is_condition(thing, fields):
    if is_tuple_of(thing, 1):
        return is_one_of(thing[0], ("always",))
    if is_tuple_of(thing, 3):
        return is_one_of(thing[0], ("day",)) and is_day_of(thing[1], thing[2])
    if not is_tuple_of(thing, 2):
        return False
    if is_one_of(thing[0], TIDES):
        return is_height(thing[1])
    return is_one_of(thing[0], WATERS) and is_one_of(thing[1], fields)


def is_decree(thing, sluices, fields):
    if not is_tuple_of(thing, 3) or not is_one_of(thing[0], DEEDS) or not is_one_of(thing[1], sluices):
        return False
    return is_list_of(thing[2], MOST_CONDITIONS) and all([is_condition(part, fields) for part in thing[2]])


def are_decrees(land, thing):
    if not isinstance(thing, list) or len(thing) > MOST_DECREES:
        return False
    sluices = land.sluices()
    fields = land.field_names()
    return all([is_decree(row, sluices, fields) for row in thing])


def check_decrees(land, thing):
    if not are_decrees(land, thing):
        raise NoDecree("these are no decrees for the land")


# The conditions of a decree are a list, which the asker may change behind: so it is copied, too.
def copied(decrees):
    return [(decree[0], decree[1], list(decree[2])) for decree in decrees]


def show_condition(condition):
    words = [str(part) for part in condition]
    if words[0] in TIDES:
        return " ".join(["sea"] + words)
    if words[0] == "day":
        return " ".join(["day", words[1], "of", words[2]])
    return " ".join(words)


def show_decree(decree):
    conditions = " and ".join([show_condition(condition) for condition in decree[2]])
    return " ".join([decree[0], decree[1], "when", conditions])


def show_decrees(decrees):
    return "\n".join([show_decree(decree) for decree in decrees])


def condition_in(words):
    if words[0] == "sea":
        return tuple(words[1:2] + [number_of(word) for word in words[2:]])
    if words[0] == "day":
        return tuple(["day"] + [number_of(word) for word in words[1:2] + words[3:]])
    return tuple(words)


def conditions_in(words):
    conditions = []
    place = 0
    while place < len(words):
        count = WORD_COUNTS.get(words[place], 1)
        conditions.append(condition_in(words[place:place + count]))
        # The word between is passed over here.
        place += count + 1
    return conditions


def decree_in(row):
    words = row.split(" ")
    return tuple(words[:2] + [conditions_in(words[3:])])


def read_decrees(land, text):
    if not isinstance(text, str):
        raise NoText("what is no text writes no decrees")
    if text == "":
        return []
    decrees = [decree_in(row) for row in text.split("\n")]
    # Decrees have one text alone: so the words that were passed over are held to be the right ones here.
    if not are_decrees(land, decrees) or show_decrees(decrees) != text:
        raise NoText("the text writes no decrees")
    return decrees


def condition_holds(condition, level, wet, day):
    if condition[0] == "above":
        return level > condition[1]
    if condition[0] == "below":
        return level < condition[1]
    if condition[0] == "wet":
        return condition[1] in wet
    if condition[0] == "dry":
        return condition[1] not in wet
    if condition[0] == "day":
        return day % condition[2] == condition[1]
    return True


def holds(decree, level, wet, day):
    return all([condition_holds(condition, level, wet, day) for condition in decree[2]])


def opened_by(land, decrees, opened, level, wet, day):
    check_decrees(land, decrees)
    check_sluices(land, opened)
    stand_open = dict([(name, name in opened) for name in land.sluices()])
    for decree in decrees:
        if holds(decree, level, wet, day):
            stand_open[decree[1]] = decree[0] == "open"
    return [name for name in stand_open if stand_open[name]]
