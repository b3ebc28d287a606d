"""The rows that a desk is told: their words, as the interface lists them [11.1]."""

from dykemoot.errors import NoRow
from dykemoot.texts import number_of, number_within

MOST_FIGURES_OF_COINS = 13


# Each of these reads the words behind a row's first one into its parts, or tells None where they are not as listed.
# A number that is not written as it should be is a part that is None, which read_row sees.
def read_nothing(words):
    return None if words else ()


def read_text(words):
    return (" ".join(words).replace(" ; ", "\n"),)


def read_some_text(words):
    return read_text(words) if words else None


def read_level(words):
    return (number_of(words[0]),) if len(words) == 1 else None


def read_field(words):
    return (words[0],) if len(words) == 1 else None


def read_wish(words):
    return (number_of(words[0]), words[1:]) if len(words) > 1 else None


def read_coins(words):
    return (words[0], number_within(words[1], MOST_FIGURES_OF_COINS)) if len(words) == 2 else None


# The first yes parts the wish from the voices, so it is never a field of the wish, but it may be a voice.
def read_move(words):
    named = words[1:]
    if "yes" not in named or named[0] == "yes":
        return None
    place = named.index("yes")
    return (number_of(words[0]), named[:place], named[place + 1:])


READERS = {
    "land": read_some_text, "decrees": read_text, "day": read_level, "height": read_field, "way": read_field,
    "ring": read_field, "cost": read_wish, "works": read_wish, "shares": read_wish, "put": read_coins,
    "move": read_move, "purses": read_nothing, "show": read_nothing,
}


def words_in(row):
    if not isinstance(row, str) or "\n" in row:
        return []
    words = row.split(" ")
    return [] if "" in words else words


def parts_in(words):
    return READERS[words[0]](words[1:]) if words and words[0] in READERS else None


# The row's first word, and its parts.
def read_row(row):
    words = words_in(row)
    parts = parts_in(words)
    if parts is None or None in parts:
        raise NoRow("this is no row that the desk knows")
    return (words[0], parts)
