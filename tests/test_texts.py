"""Numbers as words, and lands as texts [2.1]."""

import unittest

from dykemoot.errors import NoText
from dykemoot.lands import Land
from dykemoot.texts import number_of, read_land, show_land
from tests.helper import ANYTHING, DYKES, FIELDS, assert_refused, sample, some_land, widest

TEXT = "\n".join([
    "field marsh -3 7",
    "field polder 2 0",
    "field mill 5 1000000",
    "dyke west sea marsh 4 10",
    "dyke gate polder sea 9 0 -2",
    "dyke marsh marsh polder 6 3 5",
    "dyke lock mill marsh 3 1 2",
])
ROWS = TEXT.split("\n")

NO_NUMBERS = [
    "", "-", "--1", "-0", "+0", "+1", "00", "01", "-01", "007", "0000000", "-00", "12345678", "-12345678", "10000000",
    "00000001", "1 ", " 1", "1\n", "\n1", "1\n2", "1.0", "1e3", "1_0", "0x1", "a", "one", "1a", "a1", "-a", "1-", "1-1",
    "- 1", "\u0661", "\u00b2", "\uff11", "\u2460", "-\u0661", "1\u0660", "\u22121", "1,0", "None", "True", "9" * 30,
]


def swapped(row, words):
    return "\n".join(ROWS[:row] + [words] + ROWS[row + 1:])


class TestNumberOf(unittest.TestCase):
    def test_numbers_of_one_to_seven_figures(self):
        for number in [0, 1, 9, 10, 12, 123, 1234, 12345, 123456, 1234567, 1000000, 9999999]:
            self.assertEqual(number_of(str(number)), number)
            self.assertEqual(number_of(str(-number)), -number)
            self.assertIs(type(number_of(str(number))), int)

    def test_each_figure_stands_anywhere_but_a_nought_ahead(self):
        for number in range(-1100, 1101):
            self.assertEqual(number_of(str(number)), number)

    def test_texts_that_write_no_number(self):
        for word in NO_NUMBERS:
            self.assertIsNone(number_of(word), repr(word))

    def test_anything_else_writes_no_number(self):
        for thing in ANYTHING + [["1"], ("1",), {"1": 1}, b"1", 7]:
            if not (type(thing) is str and thing == "0"):
                self.assertIsNone(number_of(thing), repr(thing))


class TestShowLand(unittest.TestCase):
    def test_rows_of_fields_then_of_dykes(self):
        self.assertEqual(show_land(sample()), TEXT)

    def test_smallest_land(self):
        land = Land([("a", 0, 0)], [("b", "a", "sea", 0, 0, None)])
        self.assertEqual(show_land(land), "field a 0 0\ndyke b a sea 0 0")

    def test_edges_of_numbers_and_names(self):
        top = 10 ** 6
        land = Land([("abcdefgh", -top, top)], [("ijklmnop", "sea", "abcdefgh", top, top, -top)])
        self.assertEqual(show_land(land),
                         "field abcdefgh -1000000 1000000\ndyke ijklmnop sea abcdefgh 1000000 1000000 -1000000")

    def test_a_sill_of_nought_is_written(self):
        land = Land([("a", 0, 0)], [("b", "a", "sea", 1, 0, 0)])
        self.assertEqual(show_land(land), "field a 0 0\ndyke b a sea 1 0 0")

    def test_a_raised_land(self):
        self.assertEqual(show_land(sample().raised([("gate", 11)])), TEXT.replace("sea 9 0", "sea 11 0"))


class TestReadLand(unittest.TestCase):
    def test_reads_fields_and_dykes(self):
        land = read_land(TEXT)
        self.assertIsInstance(land, Land)
        self.assertEqual((land.fields(), land.dykes()), (FIELDS, DYKES))

    def assert_read_back(self, land):
        again = read_land(show_land(land))
        self.assertEqual((again.fields(), again.dykes()), (land.fields(), land.dykes()))
        self.assertEqual(show_land(again), show_land(land))

    def test_what_is_written_is_read_to_the_same(self):
        self.assert_read_back(sample())
        self.assert_read_back(widest())
        for seed in range(200):
            self.assert_read_back(some_land(seed, 12, 40, 10 ** (seed % 6)))

    def test_names_that_are_words_of_the_text(self):
        text = "field field 0 0\nfield dyke 0 0\ndyke dyke field dyke 0 0\ndyke field sea field 1 0 0"
        self.assertEqual(show_land(read_land(text)), text)
        self.assertEqual(read_land(text).field_names(), ["field", "dyke"])

    def test_edges_of_numbers(self):
        for row in ["dyke west sea marsh 1000000 1000000 999999", "dyke west sea marsh -1000000 0",
                    "dyke west sea marsh -999999 0 -1000000", "dyke west sea marsh 0 0 -1"]:
            self.assertEqual(show_land(read_land(swapped(3, row))), swapped(3, row))
        for row in ["field marsh -1000000 0", "field marsh 1000000 1000000"]:
            self.assertEqual(show_land(read_land(swapped(0, row))), swapped(0, row))


class TestNoText(unittest.TestCase):
    def assert_no_text(self, text):
        assert_refused(self, NoText, read_land, text)

    def test_anything_else(self):
        for thing in ANYTHING + [ROWS, tuple(ROWS), TEXT.encode(), sample(), 10 ** 399]:
            self.assert_no_text(thing)

    def test_a_number_that_is_not_written_so(self):
        places = [(0, 2), (0, 3), (3, 4), (3, 5), (4, 6)]
        for row, place in places:
            for number in NO_NUMBERS + ["x", "sea"]:
                words = ROWS[row].split(" ")
                words[place] = number
                self.assert_no_text(swapped(row, " ".join(words)))

    def test_numbers_beyond_the_bounds(self):
        for row in ["field marsh 1000001 0", "field marsh -1000001 0", "field marsh 0 -1", "field marsh 0 1000001",
                    "field marsh 9999999 0"]:
            self.assert_no_text(swapped(0, row))
        for row in ["dyke west sea marsh 1000001 0", "dyke west sea marsh -1000001 0", "dyke west sea marsh 0 -1",
                    "dyke west sea marsh 0 1000001", "dyke west sea marsh 4 10 4", "dyke west sea marsh 4 10 5",
                    "dyke west sea marsh 4 10 -1000001", "dyke west sea marsh -1000000 10 -1000000"]:
            self.assert_no_text(swapped(3, row))

    def test_names_that_are_none(self):
        for name in ["sea", "", "A", "abcdefghi", "a1", "-1", "\u00e9"]:
            self.assert_no_text(swapped(2, f"field {name} 5 0").replace("mill", "polder"))
            self.assert_no_text(swapped(3, f"dyke {name} sea marsh 4 10"))

    def test_sides_that_are_none(self):
        for sides in ["sea sea", "marsh marsh", "west sea", "sea gate", "SEA marsh", "sea nowhere", " sea", "sea "]:
            self.assert_no_text(swapped(3, f"dyke west {sides} 4 10"))

    def test_names_that_come_twice(self):
        self.assert_no_text(TEXT.replace("field mill", "field marsh").replace("lock mill", "lock polder"))
        self.assert_no_text(TEXT.replace("dyke lock", "dyke west"))

    def test_too_few_or_too_many_words(self):
        for row, words in enumerate(ROWS):
            parts = words.split(" ")
            self.assert_no_text(swapped(row, words + " 1" + (" 1" if row == 3 else "")))
            self.assert_no_text(swapped(row, " ".join(parts[:3])))
            self.assert_no_text(swapped(row, " ".join(parts[:5] if row > 2 else parts[:-1])))
            self.assert_no_text(swapped(row, parts[0]))

    def test_blanks_and_line_feeds_elsewhere(self):
        for row, words in enumerate(ROWS):
            for wrong in [words + " ", " " + words, words.replace(" ", "  ", 1), words.replace(" ", "\t", 1),
                          words + "\r", words + "\n", "\n" + words, words.replace(" ", "\n", 1), words + "\x0b",
                          words.replace(" ", "\u00a0"), ""]:
                self.assert_no_text(swapped(row, wrong))

    def test_other_signs_between_the_rows(self):
        for between in [" ", "\r\n", "\r", "\n\n", ";", " ; ", "", "\x0c", "\u2028"]:
            self.assert_no_text(between.join(ROWS))

    def test_rows_of_another_sort(self):
        for word in ["Field", "fields", "fiel", "dykes", "Dyke", "DYKE", "", "land", "sea"]:
            self.assert_no_text(TEXT + "\n" + word)
            self.assert_no_text(word + "\n" + TEXT)
            self.assert_no_text(swapped(0, word + " marsh -3 7"))
            self.assert_no_text(swapped(2, word + " mill 5 1000000"))
            self.assert_no_text(swapped(6, word + " lock mill marsh 3 1 2"))

    def test_fields_stand_ahead_of_dykes(self):
        self.assert_no_text("\n".join(ROWS[3:] + ROWS[:3]))
        self.assert_no_text("\n".join(ROWS[:2] + [ROWS[3], ROWS[2]] + ROWS[4:]))

    def test_no_fields_or_no_dykes(self):
        self.assert_no_text("\n".join(ROWS[:3]))
        self.assert_no_text("\n".join(ROWS[3:]))

    def test_too_many_fields_or_dykes(self):
        rows = show_land(widest()).split("\n")
        self.assert_no_text("\n".join(rows[:12] + ["field last 0 0"] + rows[12:]))
        self.assert_no_text("\n".join(rows + ["dyke last sea a 0 0"]))


class TestOwnValues(unittest.TestCase):
    def test_writing_and_reading_change_no_land(self):
        land = sample()
        one, other = read_land(show_land(land)), read_land(TEXT)
        one.dykes().clear()
        one.fields().clear()
        for each in [land, one, other]:
            self.assertEqual((each.fields(), each.dykes()), (FIELDS, DYKES))


if __name__ == "__main__":
    unittest.main()
