"""Decrees [5.1], decrees as texts [5.2], and what they open and shut [5.3]."""

import copy
import itertools
import unittest

from dykemoot.decrees import are_decrees, holds, opened_by, read_decrees, show_decrees
from dykemoot.errors import NoDecree, NoSluice, NoText
from dykemoot.lands import Land
from tests.helper import (ANYTHING, DYKES, FIELDS, assert_refused, opened_by_hand, sample, some_decrees, some_land,
                          widest)

TOP = 10 ** 6
ALWAYS = ("always",)

CONDITIONS = [
    ALWAYS, ("above", 0), ("above", -TOP), ("above", TOP), ("below", 7), ("below", -TOP), ("below", TOP),
    ("wet", "marsh"), ("wet", "mill"), ("dry", "polder"), ("dry", "marsh"),
    ("day", 0, 1), ("day", 0, 2), ("day", 1, 2), ("day", 0, 100), ("day", 99, 100),
]

DECREES = [
    ("open", "gate", [("above", -3), ("below", 7)]),
    ("shut", "gate", [("wet", "polder"), ("dry", "mill"), ("day", 3, 7)]),
    ("open", "marsh", [ALWAYS]),
    ("shut", "lock", [("day", 0, 2)]),
]

TEXT = "\n".join([
    "open gate when sea above -3 and sea below 7",
    "shut gate when wet polder and dry mill and day 3 of 7",
    "open marsh when always",
    "shut lock when day 0 of 2",
])
ROWS = TEXT.split("\n")


def odd_names():
    """Fields and dykes that are called like the words of a decree."""
    names = ["and", "when", "always", "wet", "dry", "day", "of", "above", "below", "open", "shut"]
    return Land([(name, 0, 0) for name in names], [(name, "sea", name, 1, 0, 0) for name in names])


def swapped(row, words):
    return "\n".join(ROWS[:row] + [words] + ROWS[row + 1:])


class TestAreDecrees(unittest.TestCase):
    def assert_decrees(self, thing, land=None):
        self.assertIs(are_decrees(land or sample(), thing), True, repr(thing))

    def assert_none(self, thing, land=None):
        before = repr(thing)
        self.assertIs(are_decrees(land or sample(), thing), False, before)
        self.assertEqual(repr(thing), before)

    def assert_no_condition(self, thing):
        self.assert_none([("open", "gate", [thing])])
        self.assert_none([("open", "gate", [ALWAYS, thing])])
        self.assert_none([("open", "gate", [thing, ALWAYS])])

    def test_decrees(self):
        self.assert_decrees(DECREES)
        self.assert_decrees(DECREES[::-1])
        self.assert_decrees(DECREES + DECREES)

    def test_each_condition_each_deed_and_each_sluice(self):
        for condition in CONDITIONS:
            for deed, dyke in itertools.product(["open", "shut"], ["gate", "marsh", "lock"]):
                self.assert_decrees([(deed, dyke, [condition])])

    def test_how_many_decrees(self):
        decree = ("open", "gate", [ALWAYS])
        for count in [0, 1, 59, 60]:
            self.assert_decrees([decree] * count)
        for count in [61, 62, 100]:
            self.assert_none([decree] * count)

    def test_how_many_conditions(self):
        for count in [1, 2, 5, 6]:
            self.assert_decrees([("open", "gate", [("wet", "mill")] * count)])
        for count in [0, 7, 8]:
            self.assert_none([("open", "gate", [("wet", "mill")] * count)])

    def test_anything_else(self):
        for thing in ANYTHING + [tuple(DECREES), DECREES[0], list(DECREES[0]), dict(enumerate(DECREES)), TEXT]:
            if not (type(thing) is list and thing == []):
                self.assert_none(thing)

    def test_one_decree_of_any_other_kind(self):
        wrongs = ANYTHING + [list(DECREES[0]), DECREES[0][:2], DECREES[0] + (None,), DECREES[0] + ([ALWAYS],), ROWS[0]]
        for thing in wrongs:
            self.assert_none([thing])
            self.assert_none([DECREES[0], thing])
            self.assert_none([thing] + DECREES)

    def test_wrong_deeds(self):
        for thing in ANYTHING + ["Open", "opened", "close", "shu", ("open",), ["open"], "openshut", "ope"]:
            self.assert_none([(thing, "gate", [ALWAYS])])

    def test_wrong_dykes(self):
        for thing in ANYTHING + ["west", "mill", "polder", "Gate", "gat", ("gate",), ["gate"], DYKES[1]]:
            self.assert_none([("open", thing, [ALWAYS])])

    def test_wrong_lists_of_conditions(self):
        for thing in ANYTHING + [ALWAYS, (ALWAYS,), {ALWAYS: 1}, {ALWAYS}, "always", ["always"], [[ALWAYS]]]:
            self.assert_none([("open", "gate", thing)])

    def test_wrong_conditions(self):
        wrongs = ANYTHING + [
            "always", ["always"], ("Always",), ("always", 1), ("always", None), ("always", "marsh"), ("above",),
            ("below",), ("wet",), ("dry",), ("day",), ("sea",), ("sea", "above", 1), ("sea", 1), ["above", 1],
            ("above", 1, 1), ("below", 1, 2), ("above", "marsh"), ("wet", 1), ["wet", "marsh"], ("wet", "marsh", 1),
            ("dry", "marsh", "mill"), ("day", 0), ("day", 0, 1, 1), ["day", 0, 1], ("wet", 0, 1), ("moon", 0, 1),
            ("Day", 0, 1), ("above", 0, 1), ("always", 0, 1), ("day", 1), ("moon", "marsh"),
        ]
        for thing in wrongs:
            self.assert_no_condition(thing)

    def test_words_of_any_other_kind(self):
        for thing in ANYTHING:
            for rest in [(), (1,), ("marsh",), (0, 1)]:
                self.assert_no_condition((thing,) + rest)

    def test_heights_that_are_none(self):
        for thing in ANYTHING + [TOP + 1, -TOP - 1, 10 ** 399, "marsh", [0]]:
            if not (type(thing) is int and abs(thing) <= TOP):
                self.assert_no_condition(("above", thing))
                self.assert_no_condition(("below", thing))

    def test_fields_that_are_none(self):
        for thing in ANYTHING + ["west", "gate", "Marsh", "mar", ("marsh",), ["marsh"], FIELDS[0]]:
            self.assert_no_condition(("wet", thing))
            self.assert_no_condition(("dry", thing))

    def test_days_that_are_none(self):
        for number, turn in [(0, 0), (1, 1), (2, 2), (3, 2), (-1, 2), (0, -1), (-1, -2), (100, 100), (0, 101),
                             (100, 101), (50, 1000), (-1, 1), (0, 10 ** 30), (True, 2), (False, 2), (0, True)]:
            self.assert_no_condition(("day", number, turn))
        for thing in ANYTHING:
            if not (type(thing) is int and thing in (0, 1)):
                self.assert_no_condition(("day", thing, 2))
            if not (type(thing) is int and thing == 1):
                self.assert_no_condition(("day", 0, thing))

    def test_a_land_without_sluices(self):
        land = Land(FIELDS, DYKES[:1])
        self.assert_decrees([], land)
        self.assert_none([("open", "west", [ALWAYS])], land)

    def test_fields_and_dykes_are_not_mistaken_for_one_another(self):
        self.assert_decrees([("open", "marsh", [("wet", "marsh")])])
        self.assert_none([("open", "mill", [("wet", "marsh")])])
        self.assert_none([("open", "marsh", [("wet", "gate")])])

    def test_many(self):
        for seed in range(100):
            land = some_land(seed)
            self.assert_decrees(some_decrees(seed, land), land)


class TestShowDecrees(unittest.TestCase):
    def test_rows(self):
        self.assertEqual(show_decrees(DECREES), TEXT)

    def test_none_are_the_text_without_signs(self):
        self.assertEqual(show_decrees([]), "")

    def test_each_condition(self):
        words = ["always", "sea above 0", "sea above -1000000", "sea above 1000000", "sea below 7",
                 "sea below -1000000", "sea below 1000000", "wet marsh", "wet mill", "dry polder", "dry marsh",
                 "day 0 of 1", "day 0 of 2", "day 1 of 2", "day 0 of 100", "day 99 of 100"]
        self.assertEqual(len(words), len(CONDITIONS))
        for condition, text in zip(CONDITIONS, words):
            self.assertEqual(show_decrees([("shut", "lock", [condition])]), "shut lock when " + text)
            self.assertEqual(read_decrees(sample(), "shut lock when " + text), [("shut", "lock", [condition])])

    def test_six_conditions(self):
        text = show_decrees([("open", "gate", [ALWAYS] * 6)])
        self.assertEqual(text, "open gate when always and always and always and always and always and always")


class TestReadDecrees(unittest.TestCase):
    def assert_read_back(self, land, decrees):
        text = show_decrees(decrees)
        told = read_decrees(land, text)
        self.assertEqual(told, decrees)
        self.assertIs(are_decrees(land, told), True)
        self.assertEqual(show_decrees(told), text)

    def test_reads_tuples_and_lists(self):
        told = read_decrees(sample(), TEXT)
        self.assertEqual(told, DECREES)
        self.assertIs(are_decrees(sample(), told), True)

    def test_the_text_without_signs_is_no_decrees(self):
        self.assertEqual(read_decrees(sample(), ""), [])
        self.assertEqual(read_decrees(Land(FIELDS, DYKES[:1]), ""), [])

    def test_how_many_decrees(self):
        self.assert_read_back(sample(), [("open", "gate", [ALWAYS])] * 60)
        assert_refused(self, NoText, read_decrees, sample(), "\n".join(["open gate when always"] * 61))

    def test_how_many_conditions(self):
        for condition in CONDITIONS:
            for count in range(1, 7):
                self.assert_read_back(sample(), [("open", "gate", [condition] * count)])
        for count in [7, 8]:
            text = "open gate when " + " and ".join(["always"] * count)
            assert_refused(self, NoText, read_decrees, sample(), text)
        for text in ["open gate when", "open gate when ", "open gate"]:
            assert_refused(self, NoText, read_decrees, sample(), text)

    def test_a_field_called_and(self):
        land = odd_names()
        for text, conditions in [
            ("wet and", [("wet", "and")]),
            ("dry and and wet and", [("dry", "and"), ("wet", "and")]),
            ("wet and and always and dry and", [("wet", "and"), ALWAYS, ("dry", "and")]),
            ("wet and and dry and and wet and", [("wet", "and"), ("dry", "and"), ("wet", "and")]),
        ]:
            self.assertEqual(read_decrees(land, "open and when " + text), [("open", "and", conditions)])
            self.assertEqual(show_decrees([("open", "and", conditions)]), "open and when " + text)
        for text in ["wet and dry and", "wet and and", "wet and and and", "wet and and and and", "and", "and and and",
                     "always and and", "wet and dry and and", "always and and and always"]:
            assert_refused(self, NoText, read_decrees, land, "open and when " + text)
        assert_refused(self, NoText, read_decrees, sample(), "open gate when wet and")

    def test_names_that_are_words_of_the_text(self):
        land = odd_names()
        for one, other in itertools.product(land.field_names(), repeat=2):
            decrees = [("open", one, [("wet", other), ("dry", one)]), ("shut", other, [ALWAYS, ("wet", one), ALWAYS])]
            self.assert_read_back(land, decrees)

    def test_the_longest_text(self):
        land = widest()
        conditions = [("above", -TOP), ("below", -TOP), ("day", 99, 100), ("wet", "l"), ("dry", "a"), ("above", TOP)]
        self.assert_read_back(land, [("shut", "a", conditions)] * 60)

    def test_what_is_written_is_read_to_the_same(self):
        self.assert_read_back(sample(), DECREES)
        for seed in range(300):
            land = some_land(seed)
            self.assert_read_back(land, some_decrees(seed, land, 20))


class TestNoText(unittest.TestCase):
    def assert_no_text(self, text):
        assert_refused(self, NoText, read_decrees, sample(), text)

    def test_anything_else(self):
        for thing in ANYTHING + [DECREES, ROWS, tuple(ROWS), TEXT.encode(), sample(), 10 ** 399]:
            if not (type(thing) is str and thing == ""):
                self.assert_no_text(thing)

    def test_blanks_and_line_feeds_elsewhere(self):
        for row, words in enumerate(ROWS):
            for wrong in [words + " ", " " + words, words.replace(" ", "  ", 1), words.replace(" ", "\t", 1),
                          words + "\r", words + "\n", "\n" + words, words.replace(" ", "\n", 1), words + "\x0b",
                          words.replace(" ", "\u00a0"), "", " ", words.replace(" when ", " when  "),
                          words.replace(" when ", "when "), words.replace(" when ", " when\n")]:
                self.assert_no_text(swapped(row, wrong))
        self.assert_no_text("\n\n")
        self.assert_no_text("  ")

    def test_other_signs_between_the_rows(self):
        for between in [" ", "\r\n", "\r", "\n\n", ";", " ; ", "", "\x0c", "\u2028", " and "]:
            self.assert_no_text(between.join(ROWS))

    def test_wrong_deeds_dykes_and_whens(self):
        for row in ["Open gate when always", "opens gate when always", "shutgate when always", "gate when always",
                    "open west when always", "open mill when always", "open Gate when always", "open when always",
                    "open gate always", "open gate When always", "open gate if always", "open gate and always",
                    "open gate when when always", "when open gate always", "open gate gate when always",
                    "open gate wheN always", "open", "gate", "when", "always", "open gate lock when always"]:
            self.assert_no_text(row)
            for place in range(4):
                self.assert_no_text(swapped(place, row))

    def test_wrong_conditions(self):
        for words in ["Always", "alway", "always always", "never", "sea", "sea above", "sea 5", "above 5", "sea over 5",
                      "sea above marsh", "sea below", "sea above 5 6", "Sea above 5", "sea always", "sea wet marsh",
                      "sea dry marsh", "sea day 1", "wet", "wet 5", "wet sea", "wet gate", "wet marsh mill",
                      "dry", "dry nowhere", "marsh wet", "day", "day 1", "day 1 of", "day of 2", "day 1 2",
                      "day 1 in 2", "day 1 of 2 3", "day 1 of of", "Day 1 of 2", "day marsh of 2", "day 1 of marsh",
                      "always 1", "and", "5", "sea above 5 and", "day 1 and 2", "wet and marsh", "above 5 5", "below 5",
                      "day 1 2 of", "sea above wet marsh", "day 0 1"]:
            for row in [words, "always and " + words, words + " and always", "wet mill and " + words + " and dry mill"]:
                self.assert_no_text("open gate when " + row)

    def test_wrong_words_between_conditions(self):
        for word in ["or", "And", "AND", "", ",", "&", "and and", "when", "always"]:
            self.assert_no_text(f"open gate when always {word} always")
            self.assert_no_text(f"open gate when sea above 5 {word} wet mill")
            self.assert_no_text(f"open gate when day 1 of 5 {word} wet mill")
        self.assert_no_text("open gate when always always")
        self.assert_no_text("open gate when wet mill dry mill")
        self.assert_no_text("open gate when and always")
        self.assert_no_text("open gate when always and")
        self.assert_no_text("open gate when always and ")

    def test_numbers_that_are_not_written_so(self):
        for number in ["", "-", "-0", "+1", "00", "01", "-01", "10000000", "1.0", "1e3", "1_0", "\u0661", "\uff11",
                       "None", "1000001", "-1000001", "9999999"]:
            self.assert_no_text(f"open gate when sea above {number}")
            self.assert_no_text(f"open gate when sea below {number}")
        for number in ["", "-", "-0", "+1", "00", "01", "-1", "7", "8", "x", "1.0", "\u0661", "None"]:
            self.assert_no_text(f"open gate when day {number} of 7")
        for number in ["", "0", "1", "-3", "03", "101", "+3", "x", "1000", "2", "3.0", "\u0663", "None"]:
            self.assert_no_text(f"open gate when day 2 of {number}")


class TestHolds(unittest.TestCase):
    def assert_holds(self, truth, condition, level=0, wet=(), day=0):
        for deed in ["open", "shut"]:
            self.assertIs(holds((deed, "gate", [condition]), level, list(wet), day), truth, condition)

    def test_always(self):
        self.assert_holds(True, ALWAYS)
        self.assert_holds(True, ALWAYS, -TOP, ["marsh"], 999)

    def test_above_and_below(self):
        for height in [-TOP, -1, 0, 1, 5, TOP]:
            for level in [height - 1, height, height + 1]:
                self.assert_holds(level > height, ("above", height), level)
                self.assert_holds(level < height, ("below", height), level)

    def test_wet_and_dry(self):
        for wet in [[], ["marsh"], ["mill"], ["mill", "marsh"]]:
            self.assert_holds("marsh" in wet, ("wet", "marsh"), 0, wet)
            self.assert_holds("marsh" not in wet, ("dry", "marsh"), 0, wet)

    def test_days(self):
        for turn in [1, 2, 3, 7, 99, 100]:
            for number in {0, turn // 2, turn - 1}:
                for day in list(range(12)) + [98, 99, 100, 101, 199, 200, 10 ** 9]:
                    self.assert_holds(day % turn == number, ("day", number, turn), 0, [], day)

    def test_all_of_several_conditions(self):
        truths = [(("above", 3), True), (("wet", "mill"), True), (("day", 1, 2), True), (("below", 3), False),
                  (("dry", "mill"), False), (("day", 0, 2), False)]
        for size in range(1, 5):
            for some in itertools.permutations(truths, size):
                decree = ("open", "gate", [condition for condition, truth in some])
                self.assertIs(holds(decree, 4, ["mill"], 5), all(truth for condition, truth in some))


class TestOpenedBy(unittest.TestCase):
    def test_no_decrees_leave_all_as_it_was(self):
        for opened in [[], ["gate"], ["gate", "lock"]]:
            self.assertEqual(opened_by(sample(), [], opened, 0, [], 0), opened)

    def test_told_in_the_lands_order_and_once(self):
        land = sample()
        self.assertEqual(opened_by(land, [], ["lock", "gate", "lock", "marsh"], 0, [], 0), ["gate", "marsh", "lock"])
        decrees = [("open", "lock", [ALWAYS]), ("open", "gate", [ALWAYS])]
        self.assertEqual(opened_by(land, decrees, ["marsh"], 0, [], 0), ["gate", "marsh", "lock"])
        self.assertEqual(opened_by(land, decrees, ["gate"], 0, [], 0), ["gate", "lock"])

    def test_opens_and_shuts(self):
        land = sample()
        self.assertEqual(opened_by(land, [("open", "gate", [ALWAYS])], [], 0, [], 0), ["gate"])
        self.assertEqual(opened_by(land, [("shut", "gate", [ALWAYS])], ["gate", "lock"], 0, [], 0), ["lock"])
        self.assertEqual(opened_by(land, [("shut", "gate", [ALWAYS])], [], 0, [], 0), [])
        self.assertEqual(opened_by(land, [("open", "gate", [ALWAYS])], ["gate"], 0, [], 0), ["gate"])

    def test_the_last_one_that_names_the_dyke_and_holds(self):
        land = sample()
        decrees = [("open", "gate", [ALWAYS]), ("shut", "gate", [("above", 5)]), ("open", "lock", [("wet", "mill")]),
                   ("open", "gate", [("above", 8)]), ("shut", "gate", [("day", 1, 2)])]
        self.assertEqual(opened_by(land, decrees, [], 5, [], 0), ["gate"])
        self.assertEqual(opened_by(land, decrees, [], 6, [], 0), [])
        self.assertEqual(opened_by(land, decrees, ["gate"], 6, ["mill"], 0), ["lock"])
        self.assertEqual(opened_by(land, decrees, [], 9, [], 0), ["gate"])
        self.assertEqual(opened_by(land, decrees, ["gate"], 9, [], 1), [])
        self.assertEqual(opened_by(land, decrees, ["lock"], 9, [], 1), ["lock"])

    def test_where_none_holds_it_stays_as_it_was(self):
        decrees = [("open", "gate", [("above", 5)]), ("shut", "gate", [("below", 5)])]
        for opened in [[], ["gate"]]:
            self.assertEqual(opened_by(sample(), decrees, opened, 5, [], 0), opened)
            self.assertEqual(opened_by(sample(), decrees, opened, 6, [], 0), ["gate"])
            self.assertEqual(opened_by(sample(), decrees, opened, 4, [], 0), [])

    def test_all_conditions_are_needed(self):
        decrees = [("open", "gate", [("above", 5), ("wet", "mill")])]
        self.assertEqual(opened_by(sample(), decrees, [], 6, [], 0), [])
        self.assertEqual(opened_by(sample(), decrees, [], 5, ["mill"], 0), [])
        self.assertEqual(opened_by(sample(), decrees, [], 6, ["mill"], 0), ["gate"])

    def test_a_plain_reading_of_many(self):
        for seed in range(300):
            land = some_land(seed)
            decrees = some_decrees(seed, land, 12)
            for day in range(6):
                opened = land.sluices()[day % 3:]
                wet = land.field_names()[day % 4:]
                handed = (land, decrees, opened, day - 3, wet, day)
                self.assertEqual(opened_by(*handed), opened_by_hand(*handed))

    def test_sluices_that_are_none(self):
        for opened in [None, "gate", ("gate",), ["west"], ["gate", "mill"], ["gate", None], {"gate": 1}, [["gate"]]]:
            assert_refused(self, NoSluice, opened_by, sample(), DECREES, opened, 0, [], 0)

    def test_decrees_that_are_none(self):
        for decrees in [None, tuple(DECREES), DECREES[0], TEXT, [("open", "west", [ALWAYS])], [("open", "gate", [])]]:
            assert_refused(self, NoDecree, opened_by, sample(), decrees, [], 0, [], 0)


class TestOwnValues(unittest.TestCase):
    def test_nothing_handed_in_is_changed(self):
        land, decrees = sample(), copy.deepcopy(DECREES)
        opened, wet = ["lock", "gate", "lock"], ["mill", "marsh"]
        are_decrees(land, decrees)
        show_decrees(decrees)
        holds(decrees[0], 0, wet, 0)
        opened_by(land, decrees, opened, 0, wet, 0)
        self.assertEqual((decrees, opened, wet), (DECREES, ["lock", "gate", "lock"], ["mill", "marsh"]))
        self.assertEqual((land.fields(), land.dykes()), (FIELDS, DYKES))

    def test_read_decrees_are_the_askers_own(self):
        land = sample()
        first, kept = read_decrees(land, TEXT), read_decrees(land, TEXT)
        for row in first:
            row[2].clear()
        first.clear()
        self.assertEqual(kept, DECREES)
        self.assertEqual(read_decrees(land, TEXT), DECREES)
        nothing = read_decrees(land, "")
        nothing.append(None)
        self.assertEqual(read_decrees(land, ""), [])

    def test_told_sluices_are_the_askers_own(self):
        land, opened, decrees = sample(), ["gate"], []
        first, kept = opened_by(land, decrees, opened, 0, [], 0), opened_by(land, decrees, opened, 0, [], 0)
        first.append("lock")
        self.assertEqual((opened, kept), (["gate"], ["gate"]))
        opened.append("lock")
        self.assertEqual(kept, ["gate"])


if __name__ == "__main__":
    unittest.main()
