"""Lands as texts, and numbers as words [2.1]."""

from dykemoot.errors import NoLand, NoText
from dykemoot.lands import Land

FIGURES = "0123456789"
MOST_FIGURES = 7


# Coins are told at the desk by more figures than other numbers, but are written alike.
def number_within(word, most):
    if not isinstance(word, str):
        return None
    figures = word[1:] if word.startswith("-") else word
    if not 1 <= len(figures) <= most or not all([sign in FIGURES for sign in figures]):
        return None
    if figures.startswith("0") and word != "0":
        return None
    return int(word)


def number_of(word):
    return number_within(word, MOST_FIGURES)


def field_row(field):
    return " ".join(["field", field[0]] + [str(number) for number in field[1:]])


def dyke_row(dyke):
    numbers = [str(number) for number in dyke[3:] if number is not None]
    return " ".join(["dyke"] + list(dyke[:3]) + numbers)


def show_land(land):
    rows = [field_row(field) for field in land.fields()] + [dyke_row(dyke) for dyke in land.dykes()]
    return "\n".join(rows)


def field_in(words):
    return tuple(words[1:2] + [number_of(word) for word in words[2:]])


def dyke_in(words):
    parts = words[1:4] + [number_of(word) for word in words[4:]]
    return tuple(parts if len(words) == 7 else parts + [None])


# Rows of other sorts and the order of the rows are left to read_land, which sees them all at once.
def land_in(text):
    rows = [row.split(" ") for row in text.split("\n")]
    fields = [field_in(words) for words in rows if words[0] == "field"]
    dykes = [dyke_in(words) for words in rows if words[0] == "dyke"]
    try:
        return Land(fields, dykes)
    except NoLand:
        raise NoText("the text writes no land") from None


def read_land(text):
    if not isinstance(text, str):
        raise NoText("what is no text writes no land")
    land = land_in(text)
    # A land has one text alone: so another row, another order or a sill that is no number shows here.
    if show_land(land) != text:
        raise NoText("the land is not written so")
    return land
