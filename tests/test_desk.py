"""The desk: rows that are answered, and rows that are refused [11.1]."""

import itertools
import unittest

from dykemoot.coins import coins_of, keeps
from dykemoot.decrees import show_decrees
from dykemoot.desk import Desk
from dykemoot.errors import (DykeError, NoLand, NoLevel, NoName, NoPurse, NoRow, NoText, NoVoice, NoWish, Outvoted,
                             Short, TooMany)
from dykemoot.floods import flood_heights
from dykemoot.lands import Land
from dykemoot.moots import Moot
from dykemoot.rings import kept_out, way_height
from dykemoot.seasons import Season
from dykemoot.shares import shares
from dykemoot.texts import show_land
from tests.helper import (ANYTHING, Numbers, assert_refused, day_by_hand, floods_by_hand, least_by_trying, sample,
                          some_decrees, some_land, widest)

LAND = ("land field marsh -3 7 ; field polder 2 0 ; field mill 5 1000000 ; dyke west sea marsh 4 10"
        " ; dyke gate polder sea 9 0 -2 ; dyke marsh marsh polder 6 3 5 ; dyke lock mill marsh 3 1 2")
SHOWN = LAND[len("land "):]
# One row of each kind, as listed, with an answer on the land above.
ROWS = [
    LAND, "decrees open gate when sea above 4 and dry mill ; shut gate when day 0 of 2", "decrees", "day 5",
    "height marsh", "way polder", "ring polder", "cost 8 marsh mill", "works 8 marsh mill", "shares 8 marsh mill",
    "put mill 100", "move 4 marsh mill yes mill", "move 4 marsh yes mill marsh mill", "purses", "show",
]
NO_NUMBERS = ["-", "--1", "-0", "+0", "+1", "00", "01", "-01", "007", "1.0", "1e3", "1_0", "0x1", "a", "1a", "\u0661",
              "\u00b2", "\uff11", "1\t", "\t1", "1\r", "five", "marsh", "yes", ";", "|", "None"]
# One place for each number of a row; the words behind it are there as listed.
NUMBERED = ["day {}", "cost {} marsh", "cost {} marsh mill", "works {} marsh", "shares {} mill marsh",
            "move {} marsh yes mill", "move {} marsh mill yes"]


def at_desk(*rows):
    desk = Desk()
    for row in rows:
        desk.say(row)
    return desk


def land_row(land):
    return "land " + " ; ".join(show_land(land).split("\n"))


def decrees_row(decrees):
    return " ".join(["decrees"] + ([" ; ".join(show_decrees(decrees).split("\n"))] if decrees else []))


def told(desk):
    """What a desk tells of all that it keeps, by rows that change nothing but the days."""
    names = [row.split(" ")[1] for row in desk.say("show").split(" ; ") if row.startswith("field ")]
    return (desk.say("show"), desk.say("purses"), [desk.say("height " + name) for name in names],
            [desk.say("way " + name) for name in names])


def led_on(desk, levels=(3, 5, 7, 10, 0, 4)):
    return [desk.say(f"day {level}") for level in levels]


def show_share(share):
    return str(share[0]) if share[1] == 1 else f"{share[0]}/{share[1]}"


class TestRows(unittest.TestCase):
    def test_each_answer_is_a_text(self):
        desk = Desk()
        for row in ROWS:
            self.assertIs(type(desk.say(row)), str, row)

    def test_land_and_show(self):
        desk = Desk()
        self.assertEqual(desk.say(LAND), "ok")
        self.assertEqual(desk.say("show"), SHOWN)
        self.assertEqual(desk.say("land field a 0 0 ; dyke b a sea 0 0"), "ok")
        self.assertEqual(desk.say("show"), "field a 0 0 ; dyke b a sea 0 0")

    def test_what_is_shown_is_told_again_to_the_same(self):
        for land in [sample(), widest()] + [some_land(seed, 12, 40) for seed in range(40)]:
            desk = at_desk(land_row(land))
            self.assertEqual(desk.say("show"), " ; ".join(show_land(land).split("\n")))
            again = at_desk("land " + desk.say("show"))
            self.assertEqual(told(again), told(desk))

    def test_day(self):
        desk = at_desk(
            LAND, "decrees open gate when sea above 4 ; open lock when wet marsh ; shut gate when day 2 of 3")
        self.assertEqual(desk.say("day 4"), "open | wet")
        self.assertEqual(desk.say("day 5"), "open gate | wet marsh polder")
        self.assertEqual(desk.say("day -1000000"), "open lock | wet marsh polder")
        self.assertEqual(desk.say("day 1000000"), "open gate lock | wet marsh polder mill")

    def test_days_of_a_land_without_decrees(self):
        desk = at_desk(LAND)
        self.assertEqual(desk.say("day 4"), "open | wet")
        self.assertEqual(desk.say("day 5"), "open | wet marsh")

    def test_height_by_the_seasons_open_sluices(self):
        desk = at_desk(LAND, "decrees open gate when day 1 of 2 ; shut gate when day 0 of 2")
        self.assertEqual([desk.say("height " + name) for name in ["marsh", "polder", "mill"]], ["4", "6", "5"])
        desk.say("day 0")
        self.assertEqual(desk.say("height polder"), "6")
        desk.say("day 0")
        self.assertEqual(desk.say("height polder"), "2")
        desk.say("day 0")
        self.assertEqual(desk.say("height polder"), "6")

    def test_heights_of_nought_and_below_it(self):
        desk = at_desk("land field a -5 0 ; field b -5 0 ; dyke x sea a -4 0 ; dyke y sea b 0 0")
        self.assertEqual([desk.say("height a"), desk.say("height b")], ["-4", "0"])

    def test_way_and_ring_by_the_seasons_open_sluices(self):
        desk = at_desk(LAND, "decrees open gate when day 1 of 2 ; shut gate when day 0 of 2")
        self.assertEqual(desk.say("way polder"), "west marsh")
        self.assertEqual(desk.say("way mill"), "west lock")
        self.assertEqual(desk.say("way marsh"), "west")
        self.assertEqual(desk.say("ring marsh"), "marsh polder mill")
        self.assertEqual(desk.say("ring polder"), "polder")
        desk.say("day 0")
        desk.say("day 0")
        self.assertEqual(desk.say("way polder"), "gate")

    def test_never(self):
        desk = at_desk("land field a 0 0 ; field b 0 0 ; field c 0 0 ; dyke x sea a 1 0 ; dyke y b c 0 5")
        self.assertEqual([desk.say("height b"), desk.say("way b"), desk.say("way a")], ["never", "never", "x"])
        self.assertEqual(desk.say("ring b"), "b c")
        self.assertEqual(desk.say("cost 5 c b"), "0")

    def test_cost_works_and_shares(self):
        desk = at_desk(LAND)
        self.assertEqual(desk.say("cost 8 marsh mill"), "40")
        self.assertEqual(desk.say("works 8 marsh mill"), "west 8")
        self.assertEqual(desk.say("shares 8 marsh mill"), "marsh 75/2; mill 5/2")
        self.assertEqual(desk.say("shares 8 mill marsh"), "mill 5/2; marsh 75/2")
        self.assertEqual(desk.say("shares 6 marsh"), "marsh 20")
        self.assertEqual(desk.say("cost 10 marsh polder mill"), "60")
        self.assertEqual(desk.say("works 10 polder marsh mill"), "west 10; gate 10")
        self.assertEqual(desk.say("cost -1000000 mill"), "0")

    def test_works_that_are_none(self):
        desk = at_desk(LAND)
        self.assertEqual(desk.say("works 4 marsh mill polder"), "")
        self.assertEqual(desk.say("cost 4 marsh mill polder"), "0")
        self.assertEqual(desk.say("shares 4 marsh mill polder"), "marsh 0; mill 0; polder 0")

    def test_put_and_purses(self):
        desk = at_desk(LAND)
        self.assertEqual(desk.say("purses"), "marsh 0; polder 0; mill 0")
        self.assertEqual(desk.say("put mill 5"), "ok")
        self.assertEqual(desk.say("put marsh 0"), "ok")
        self.assertEqual(desk.say("put mill 7"), "ok")
        self.assertEqual(desk.say("put polder 1000000000000"), "ok")
        self.assertEqual(desk.say("purses"), "marsh 0; polder 1000000000000; mill 12")

    def test_move(self):
        desk = at_desk(LAND, "put marsh 100", "put mill 3")
        self.assertEqual(desk.say("move 8 marsh mill yes mill"), "40")
        self.assertEqual(desk.say("purses"), "marsh 125/2; polder 0; mill 1/2")
        self.assertEqual(desk.say("show"), SHOWN.replace("sea marsh 4 10", "sea marsh 8 10"))
        self.assertEqual(desk.say("height marsh"), "8")
        self.assertEqual(desk.say("cost 8 marsh mill"), "0")
        self.assertEqual(desk.say("move 8 mill yes marsh mill mill"), "0")

    def test_nobody_behind_yes(self):
        desk = at_desk(LAND)
        assert_refused(self, Outvoted, desk.say, "move 4 marsh mill yes")

    def test_the_season_goes_on_behind_a_move(self):
        desk = at_desk(
            LAND, "decrees open lock when wet marsh and day 3 of 4 ; open gate when day 4 of 5", "put marsh 90")
        self.assertEqual(desk.say("day 5"), "open | wet marsh")
        self.assertEqual(desk.say("day 0"), "open | wet marsh")
        self.assertEqual(desk.say("move 9 marsh yes mill"), "50")
        self.assertEqual(desk.say("day 0"), "open | wet marsh")
        self.assertEqual(desk.say("day 0"), "open lock | wet marsh")
        self.assertEqual(desk.say("height mill"), "9")
        self.assertEqual(desk.say("day 0"), "open gate lock | wet marsh")

    def test_a_new_season_by_decrees_is_of_the_moots_land(self):
        desk = at_desk(LAND, "put marsh 90", "move 6 marsh yes mill")
        self.assertEqual(desk.say("day 6"), "open | wet")
        self.assertEqual(desk.say("decrees open lock when day 0 of 9"), "ok")
        self.assertEqual(desk.say("purses"), "marsh 70; polder 0; mill 0")
        self.assertEqual(desk.say("show"), SHOWN.replace("sea marsh 4 10", "sea marsh 6 10"))
        self.assertEqual(desk.say("day 6"), "open lock | wet")
        self.assertEqual(desk.say("day 7"), "open lock | wet marsh polder mill")

    def test_decrees_begin_a_new_season(self):
        desk = at_desk(LAND, "decrees open gate when day 0 of 9", "day 5", "day 5")
        self.assertEqual(desk.say("height polder"), "2")
        for row in ["decrees open gate when day 1 of 9", "decrees"]:
            self.assertEqual(desk.say(row), "ok")
            self.assertEqual(desk.say("height polder"), "6")
            self.assertEqual(desk.say("day 2"), "open | wet")

    def test_decrees_take_the_place_of_those_before(self):
        desk = at_desk(LAND, "decrees open gate when always", "decrees open lock when always")
        self.assertEqual(desk.say("day 0"), "open lock | wet")
        desk.say("decrees")
        self.assertEqual(desk.say("day 0"), "open | wet")

    def test_a_new_land_begins_all_anew(self):
        desk = at_desk(LAND, "decrees open gate when always", "put marsh 90", "move 6 marsh yes mill", "day 7")
        self.assertEqual(desk.say(LAND), "ok")
        self.assertEqual(told(desk), told(at_desk(LAND)))
        self.assertEqual(led_on(desk), led_on(at_desk(LAND)))

    def test_lands_one_after_another(self):
        desk = Desk()
        for seed in range(30):
            land = some_land(seed)
            self.assertEqual(desk.say(land_row(land)), "ok")
            self.assertEqual(desk.say(decrees_row(some_decrees(seed, land))), "ok")
            other = at_desk(land_row(land), decrees_row(some_decrees(seed, land)))
            self.assertEqual(led_on(desk), led_on(other))
            self.assertEqual(told(desk), told(other))
            desk.say(f"put {land.field_names()[0]} 500")

    def test_two_desks(self):
        one, other = at_desk(LAND), at_desk(LAND)
        before = told(other)
        for row in ["decrees open gate when always", "put marsh 90", "move 6 marsh yes mill", "day 7"]:
            one.say(row)
        self.assertEqual(told(other), before)


class TestWordsAsFields(unittest.TestCase):
    LAND = ("land field yes -1 3 ; field and -1 3 ; field when -1 3 ; field open -1 3"
            " ; dyke wet sea yes 0 1 -1 ; dyke land sea and 0 1 ; dyke day sea when 0 1 ; dyke b sea open 0 1")

    def test_asked_for(self):
        desk = at_desk(self.LAND)
        for name in ["yes", "and", "when", "open"]:
            self.assertEqual(desk.say("height " + name), "0")
            self.assertEqual(desk.say("cost 2 " + name), "2")
            self.assertEqual(desk.say("put " + name + " 10"), "ok")
        self.assertEqual(desk.say("way yes"), "wet")
        self.assertEqual(desk.say("works 1 and yes"), "wet 1; land 1")
        self.assertEqual(desk.say("shares 2 yes and"), "yes 2; and 2")
        self.assertEqual(desk.say("ring yes"), "yes and when open")

    def test_conditions(self):
        desk = at_desk(self.LAND, "decrees open wet when dry and and dry yes and wet and ; open wet when wet and")
        self.assertEqual(desk.say("day 1"), "open | wet yes and when open")
        self.assertEqual(desk.say("day 1"), "open wet | wet yes and when open")

    def test_yes_says_yes(self):
        desk = at_desk(self.LAND, "put and 10")
        self.assertEqual(desk.say("move 1 and yes yes and open"), "1")
        self.assertEqual(desk.say("move 2 and yes and open yes"), "1")
        self.assertEqual(desk.say("move 2 and yes yes yes open when"), "0")
        assert_refused(self, Outvoted, desk.say, "move 3 and yes yes")
        assert_refused(self, Outvoted, desk.say, "move 3 and yes yes yes")
        self.assertEqual(desk.say("purses"), "yes 0; and 8; when 0; open 0")

    def test_yes_is_never_a_field_of_a_wish_that_is_moved(self):
        desk = at_desk(self.LAND, "put yes 10")
        for row in ["move 1 yes yes and open", "move 1 yes", "move 1 yes yes", "move 1 yes yes yes"]:
            assert_refused(self, NoRow, desk.say, row)
        # The first yes parts them: behind it, and is a voice.
        self.assertEqual(desk.say("move 0 and yes and when yes"), "0")


class TestNoRow(unittest.TestCase):
    def assert_no_row(self, row):
        assert_refused(self, NoRow, Desk().say, row)
        desk = at_desk(LAND, "decrees open gate when sea above 4", "put marsh 9", "day 5")
        before = told(desk)
        assert_refused(self, NoRow, desk.say, row)
        self.assertEqual(told(desk), before)
        self.assertEqual(desk.say("day 3"), "open gate | wet marsh polder")

    def test_anything_else(self):
        for thing in ANYTHING + [["show"], ("show",), {"show": 1}, b"show", list(LAND), LAND.split(" "), 5]:
            self.assert_no_row(thing)

    def test_other_first_words(self):
        for row in ["Show", "SHOW", "shows", "sho", "lands", "say", "sea", "field", "dyke", "open", "ok", "days 5",
                    "wet marsh", "field a 0 0", "yes", ";", "|", "0", "marsh", "heights marsh", "keeps 5 marsh",
                    "purse", "raise west 5", "help", "land: " + SHOWN, "Land " + SHOWN, "show;", ";show", "#"]:
            self.assert_no_row(row)

    def test_a_blank_too_many_at_every_place(self):
        for row in ROWS:
            for place in range(len(row) + 1):
                if place in (0, len(row)) or row[place] == " ":
                    self.assert_no_row(row[:place] + " " + row[place:])

    def test_only_blanks_and_no_signs(self):
        for row in ["", " ", "  ", "   "]:
            self.assert_no_row(row)

    def test_a_line_feed_at_every_place(self):
        for row in ROWS:
            for place in range(len(row) + 1):
                self.assert_no_row(row[:place] + "\n" + row[place:])
            if " " in row:
                self.assert_no_row(row.replace(" ", "\n"))
        self.assert_no_row("\n")
        self.assert_no_row("land " + SHOWN.replace(" ; ", "\n"))

    def test_a_tab_in_the_place_of_the_first_blank(self):
        for row in ROWS:
            if " " in row:
                self.assert_no_row(row.replace(" ", "\t", 1))
            self.assert_no_row("\t" + row)
        self.assert_no_row("show\t")
        self.assert_no_row("purses\t")
        self.assert_no_row("day 5\t")
        self.assert_no_row("day\t5")

    def test_a_word_too_few(self):
        for row in ["land", "day", "height", "way", "ring", "cost", "cost 8", "works", "works 8", "shares", "shares 8",
                    "put", "put mill", "put 5", "move", "move 8", "move 8 marsh", "move 8 marsh mill", "move 8 yes",
                    "move 8 yes mill", "move yes", "move marsh yes mill", "move yes mill"]:
            self.assert_no_row(row)

    def test_a_word_too_many(self):
        for row in ["day 5 5", "day 5 marsh", "height marsh marsh", "height marsh mill", "way marsh mill",
                    "ring marsh mill", "put mill 5 5", "put mill marsh 5", "purses marsh", "purses mill 5", "show land",
                    "show show", "show ;", "height 5 marsh", "way 5 marsh"]:
            self.assert_no_row(row)

    def test_numbers_that_are_not_written_so(self):
        for word in NO_NUMBERS + ["12345678", "-12345678", "10000000", "00000001", "9" * 30]:
            for row in NUMBERED:
                self.assert_no_row(row.format(word))

    def test_coins_that_are_not_written_so(self):
        for word in NO_NUMBERS + ["10000000000000", "-10000000000000", "00000000000001", "01000000000000", "9" * 30]:
            self.assert_no_row("put mill " + word)

    def test_numbers_behind_the_fields(self):
        for row in ["cost marsh 8", "works marsh mill 8", "shares marsh 8", "put 5 mill", "move marsh 8 yes mill"]:
            self.assert_no_row(row)

    def test_ahead_of_all_else(self):
        for row in ["cost 12345678 zz zz", "cost 08 zz", "put zz 12345678901234", "put zz -0", "move 08 zz yes zz",
                    "move 8 zz zz", "height zz zz", "way", "day 10000000", "shares -0 marsh marsh", "works 1.5 zz"]:
            self.assert_no_row(row)


class TestNoLand(unittest.TestCase):
    def test_every_row_but_land(self):
        for row in ROWS + ["height zz", "cost 8 zz", "cost 9999999 marsh marsh", "put zz 5", "put mill 9999999999999",
                           "move 8 zz yes zz", "day 9999999", "decrees zz", "decrees ;", "ring a\tb"]:
            if not row.startswith("land"):
                desk = Desk()
                assert_refused(self, NoLand, desk.say, row)
                self.assertEqual(desk.say(LAND), "ok")
                self.assertEqual(told(desk), told(at_desk(LAND)))

    def test_a_land_that_was_refused_is_none(self):
        desk = Desk()
        assert_refused(self, NoText, desk.say, "land field a 0 0")
        assert_refused(self, NoLand, desk.say, "show")


class TestRefusals(unittest.TestCase):
    def desk(self):
        return at_desk(LAND, "decrees open gate when sea above 4 ; shut gate when day 0 of 7", "put marsh 19",
                       "put mill 2", "day 0", "day 5")

    def assert_refusal(self, error, row):
        desk = self.desk()
        before = told(desk)
        assert_refused(self, error, desk.say, row)
        self.assertEqual(told(desk), before)
        self.assertEqual(led_on(desk), led_on(self.desk()))
        self.assertEqual(desk.say("put mill 1"), "ok")

    def test_texts_of_no_land(self):
        rows = SHOWN.split(" ; ")
        texts = [
            rows[0], " ; ".join(rows[3:]), " ; ".join(rows[1:] + rows[:1]), SHOWN + " ;", "; " + SHOWN, ";", "a",
            "show", "land " + SHOWN, SHOWN.replace(" ; ", "; ", 1), SHOWN.replace(" ; ", " ;", 1),
            SHOWN.replace(" ; ", " ; ; ", 1), SHOWN.replace(" ; ", " | "), SHOWN.replace(" ; ", " \\n "),
            SHOWN.replace("-3", "-03"), SHOWN.replace("-3", "-0"), SHOWN.replace("-3", "-3000000"),
            SHOWN.replace("1000000", "1000001"), SHOWN.replace("1000000", "10000000"), SHOWN.replace("polder", "sea"),
            SHOWN.replace("mill 5", "marsh 5"), SHOWN.replace("field marsh", "field Marsh"),
            SHOWN.replace("gate", "west"), SHOWN.replace(" -2", " 9"), SHOWN + " 3 4", SHOWN + " ; field zz 0 0",
            SHOWN.replace("-3 7", "-3\t7"), SHOWN + "\t",
        ]
        for text in texts:
            self.assertNotEqual(text, SHOWN)
            self.assert_refusal(NoText, "land " + text)
            assert_refused(self, NoText, Desk().say, "land " + text)

    def test_texts_of_no_decrees(self):
        always = "open gate when always"
        for text in [
                "open west when always", "open zz when always", "Open gate when always", "open gate", "open gate when",
                "gate", ";", "always", "show", "open marsh", always + " ;", "; " + always, f"{always} ; ; {always}",
                f"{always}; {always}", "open gate when sea above 1000001", "open gate when sea above 05",
                "open gate when sea above -0", "open gate when sea above 12345678", "open gate when wet zz",
                "open gate when wet gate", "open gate when day 2 of 2", "open gate when day 0 of 0",
                "open gate when day 0 of 101", always + " and", always + 6 * " and always", "open gate when\talways",
                always + "\t", "open gate when dry mill or wet mill", " ; ".join([always] * 61)]:
            self.assert_refusal(NoText, "decrees " + text)

    def test_as_many_decrees_and_conditions_as_may_be(self):
        row = "open gate when " + " and ".join(["always"] * 6)
        self.assertEqual(self.desk().say("decrees " + " ; ".join([row] * 60)), "ok")

    def test_levels(self):
        for word in ["1000001", "-1000001", "9999999", "-9999999"]:
            self.assert_refusal(NoLevel, "day " + word)

    def test_words_that_are_no_field(self):
        for word in ["zz", "west", "gate", "sea", "Marsh", "mars", "marshs", "5", "-", ";", "|", "a\tb", "marsh\t",
                     "marsh;", "marsh,mill", "yes", "\u00e9", "marsh\r", "marsh\u00a0", "never", "toolonganame"]:
            for row in ["height", "way", "ring", "cost 8", "works 8", "shares 8", "cost 9999999", "works -9999999",
                        "shares 1000001"]:
                self.assert_refusal(NoName, row + " " + word)
            for row in ["cost 8", "works 8", "shares 8"]:
                for words in [f"marsh {word}", f"{word} marsh", f"marsh marsh {word}", f"{word} {word}"]:
                    self.assert_refusal(NoName, row + " " + words)

    def test_wishes_that_are_none(self):
        for row in ["cost", "works", "shares"]:
            for words in ["8 marsh marsh", "8 marsh mill marsh", "8 mill marsh polder mill", "1000001 marsh",
                          "-1000001 marsh", "9999999 marsh mill", "-9999999 marsh marsh"]:
                self.assert_refusal(NoWish, row + " " + words)

    def test_too_many_fields(self):
        desk = at_desk(land_row(widest()))
        nine = "a b c d e f g h i"
        assert_refused(self, TooMany, desk.say, "shares 140 " + nine)
        assert_refused(self, TooMany, desk.say, "move 140 " + nine + " yes a")
        assert_refused(self, NoName, desk.say, "shares 140 " + nine + " zz")
        assert_refused(self, NoWish, desk.say, "shares 140 " + nine + " a")
        assert_refused(self, NoWish, desk.say, "shares 1000001 " + nine)
        assert_refused(self, NoVoice, desk.say, "move 140 " + nine + " yes zz")
        self.assertEqual(len(desk.say("shares 140 " + nine[:-2]).split("; ")), 8)
        self.assertEqual(desk.say("cost 140 " + nine), desk.say("cost 140 " + nine[::-1]))
        self.assertTrue(desk.say("works 140 " + nine).endswith(" 140"))

    def test_put(self):
        for word in ["1000000000001", "9999999999999", "-1", "-1000000000000", "-9999999999999"]:
            self.assert_refusal(NoPurse, "put mill " + word)
        for word in ["zz", "west", "sea", "Mill", "5", "-", "mill\t", "yes"]:
            for coins in ["5", "0", "-1", "9999999999999"]:
                self.assert_refusal(NoVoice, f"put {word} {coins}")

    def test_coins_of_many_figures(self):
        desk = at_desk(LAND)
        for coins in ["0", "9999999", "10000000", "123456789012", "999999999999", "1000000000000"]:
            self.assertEqual(desk.say("put mill " + coins), "ok")
        total = 9999999 + 10000000 + 123456789012 + 999999999999 + 1000000000000
        self.assertEqual(desk.say("purses"), f"marsh 0; polder 0; mill {total}")

    def test_move(self):
        for row, error in [
                ("move 6 zz yes mill", NoWish), ("move 6 marsh zz yes mill", NoWish), ("move 6 sea yes mill", NoWish),
                ("move 6 marsh marsh yes mill", NoWish), ("move 1000001 marsh yes mill", NoWish),
                ("move -9999999 marsh yes mill", NoWish), ("move 6 zz yes zz", NoWish), ("move 6 west yes", NoWish),
                ("move 6 marsh\t yes mill", NoWish),
                ("move 6 marsh yes zz", NoVoice), ("move 6 marsh yes mill zz", NoVoice),
                ("move 6 marsh yes sea", NoVoice), ("move 6 marsh yes west mill", NoVoice),
                ("move 6 marsh yes yes", NoVoice), ("move 6 marsh yes 5", NoVoice),
                ("move 6 marsh yes mill yes", NoVoice), ("move 6 marsh yes mill\t", NoVoice),
                ("move 6 marsh yes", Outvoted), ("move 6 marsh yes marsh polder", Outvoted),
                ("move 6 marsh yes marsh marsh", Outvoted),
                ("move 6 marsh yes mill", Short), ("move 8 mill marsh yes mill", Short)]:
            self.assert_refusal(error, row)

    def test_short_tells_its_field(self):
        for row, field in [("move 6 marsh yes mill", "marsh"), ("move 8 mill marsh yes mill", "mill"),
                           ("move 8 marsh mill yes mill", "marsh")]:
            with self.assertRaises(Short) as caught:
                self.desk().say(row)
            self.assertEqual(caught.exception.field, field)

    def test_a_share_that_is_just_what_the_purse_holds(self):
        desk = self.desk()
        desk.say("put marsh 1")
        self.assertEqual(desk.say("move 6 marsh yes mill"), "20")
        self.assertEqual(desk.say("purses"), "marsh 0; polder 0; mill 2")


class TestManyRows(unittest.TestCase):
    """Rows of a fixed row, one after another, each held against what the stages tell by themselves."""

    def some_row(self, numbers, land):
        names = land.field_names()
        some = [names[numbers.below(len(names))] for part in range(numbers.between(1, 3))]
        rest = [names[numbers.below(len(names))] for part in range(numbers.below(7))]
        height, name = str(numbers.between(-6, 9)), some[0]
        return [["day", height], ["day", height], ["height", name], ["way", name], ["ring", name],
                ["cost", height] + some, ["works", height] + some, ["shares", height] + some,
                ["put", name, str(numbers.below(60))], ["move", height] + some + ["yes"] + rest,
                ["move", height] + some + ["yes"] + names, ["purses"], ["show"]][numbers.below(13)]

    def assert_works(self, land, fields, height, answer):
        works = [tuple(row.split(" ")) for row in answer.split("; ")] if answer else []
        self.assertTrue(all(to == str(height) for name, to in works))
        works = [(name, int(to)) for name, to in works]
        self.assertIs(keeps(land.raised(works), fields, height), True)
        self.assertEqual(coins_of(land, works), least_by_trying(land, fields, height))

    def assert_answer(self, land, season, words, answer):
        opened = season.opened()
        if words[0] == "height":
            height = floods_by_hand(land, opened)[words[1]]
            self.assertEqual(answer, "never" if height is None else str(height))
        if words[0] == "way":
            height = floods_by_hand(land, opened)[words[1]]
            self.assertEqual(height is None, answer == "never")
            if height is not None:
                self.assertEqual(way_height(land, opened, words[1], answer.split(" ")), height)
        if words[0] == "ring":
            self.assertIn(words[1], answer.split(" "))
            self.assertEqual(kept_out(land, opened, answer.split(" ")), flood_heights(land, opened)[words[1]])
        if words[0] == "cost":
            self.assertEqual(answer, str(least_by_trying(land, words[2:], int(words[1]))))
        if words[0] == "works":
            self.assert_works(land, words[2:], int(words[1]), answer)
        if words[0] == "shares":
            by_hand = shares(land, words[2:], int(words[1])).items()
            self.assertEqual(answer, "; ".join(f"{name} {show_share(share)}" for name, share in by_hand))
        if words[0] == "show":
            self.assertEqual(answer, " ; ".join(show_land(land).split("\n")))

    def go_on(self, moot, season, words):
        """The answer of a row that changes something, or of purses, by a moot and a season; None for others."""
        if words[0] == "day":
            opened, wet = season.day(int(words[1]))
            return " ".join(["open"] + opened) + " | " + " ".join(["wet"] + wet)
        if words[0] == "put":
            moot.put(words[1], int(words[2]))
            return "ok"
        if words[0] == "move":
            place = words.index("yes")
            return str(moot.move(words[2:place], int(words[1]), words[place + 1:]))
        if words[0] == "purses":
            return "; ".join(f"{name} {show_share(purse)}" for name, purse in moot.purses().items())
        if words[0] in ("cost", "works", "shares"):
            shares(moot.land(), words[2:], int(words[1]))
        return None

    def test_plain_reading(self):
        found = {}
        for seed in range(60):
            land, numbers = some_land(seed, 5, 7), Numbers(seed)
            decrees = some_decrees(seed, land)
            desk = at_desk(land_row(land), decrees_row(decrees))
            moot, season = Moot(land, dict.fromkeys(land.field_names(), 0)), Season(land, decrees)
            for turn in range(40):
                words = self.some_row(numbers, land)
                try:
                    by_hand, error = self.go_on(moot, season, words), None
                except DykeError as refusal:
                    by_hand, error = None, type(refusal)
                found[words[0], error] = found.get((words[0], error), 0) + 1
                if error is not None:
                    assert_refused(self, error, desk.say, " ".join(words))
                    continue
                answer = desk.say(" ".join(words))
                if by_hand is None:
                    self.assert_answer(moot.land(), season, words, answer)
                else:
                    self.assertEqual(answer, by_hand, words)
                season = season.onto(moot.land())
        for error in [None, NoWish, Outvoted, Short]:
            self.assertGreater(found["move", error], 10, found)

    def test_days_by_hand_with_moves_between(self):
        moved = 0
        for seed in range(60):
            land, numbers = some_land(seed, 4, 7), Numbers(seed + 1000)
            decrees, now = some_decrees(seed, land), ([], [])
            desk = at_desk(land_row(land), decrees_row(decrees))
            for name in land.field_names():
                desk.say(f"put {name} 60")
            for day in range(12):
                level = numbers.between(-7, 8)
                now = day_by_hand(land, decrees, now, level, day)
                self.assertEqual(desk.say(f"day {level}"),
                                 " ".join(["open"] + now[0]) + " | " + " ".join(["wet"] + now[1]))
                try:
                    desk.say(" ".join(["move", str(numbers.between(-5, 7)), land.field_names()[0], "yes"]
                                      + land.field_names()))
                except DykeError:
                    continue
                moved += 1
                crowns = dict((words[1], int(words[4])) for words in
                              [row.split(" ") for row in desk.say("show").split(" ; ")] if words[0] == "dyke")
                land = Land(land.fields(), [row[:3] + (crowns[row[0]],) + row[4:] for row in land.dykes()])
        self.assertGreater(moved, 100)


class TestNothingElseChanges(unittest.TestCase):
    def test_questions_change_nothing(self):
        for rows in itertools.permutations(["height marsh", "way mill", "ring polder", "cost 8 marsh mill", "show"], 3):
            desk, other = at_desk(LAND, "put marsh 9", "day 5"), at_desk(LAND, "put marsh 9", "day 5")
            for row in rows + ("works 9 polder", "shares 9 polder mill", "purses"):
                self.assertEqual(desk.say(row), desk.say(row))
            self.assertEqual(told(desk), told(other))
            self.assertEqual(led_on(desk), led_on(other))

    def test_names_of_every_length(self):
        land = Land([("abcdefgh", 0, 1)], [("ijklmnop", "sea", "abcdefgh", 1, 1000000, -1000000),
                                           ("b", "abcdefgh", "sea", 1000000, 0, None)])
        desk = at_desk(land_row(land), "put abcdefgh 1000000000000", "decrees open ijklmnop when sea below -999999")
        self.assertEqual(desk.say("move 1000000 abcdefgh yes abcdefgh"), "999999000000")
        self.assertEqual(desk.say("purses"), "abcdefgh 1000000")
        self.assertEqual(desk.say("day -1000000"), "open ijklmnop | wet")
        self.assertEqual(desk.say("height abcdefgh"), "0")


if __name__ == "__main__":
    unittest.main()
