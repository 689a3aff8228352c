"""Point 24: drawings and lists of fractions as texts, and back."""

import re
import unittest
from fractions import Fraction

from sharesample.drawings import is_drawing
from sharesample.errors import NoDrawing, NoText, NoWorths
from sharesample.texts import read_drawing, read_list, shown_drawing, shown_list
from tests.helper import HALF, ODD_THINGS, ONE, ZERO, Case, as_pair, bad_lists, drawing_of_text, pairs_of
from tests.test_drawings import GOOD, NOBODY, SOLE, THREE, even_drawing
from tests.test_guesses import BAD_DRAWINGS, MADE, some_list

FORTY = 10 ** 40 - 1
FORTY_ONE = 10 ** 40
# Neighbours have no common divisor.
LONGEST = "1/" + str(FORTY) + " : 0\n" + str(FORTY - 1) + "/" + str(FORTY) + " : 1"
TOO_LONG = "1/" + str(FORTY_ONE) + " : 0\n" + str(FORTY_ONE - 1) + "/" + str(FORTY_ONE) + " : 1"

TEXTS = [
    ("houses 1\n1 : 0", SOLE),
    ("houses 1\n1 :", NOBODY),
    ("houses 3\n1/6 :\n1/3 : 0 2\n1/4 : 1\n1/4 : 1 2", THREE),
    ("houses 12\n1 : 0 1 2 3 4 5 6 7 8 9 10 11", (12, [(ONE, tuple(range(12)))])),
    ("houses 12\n1/2 : 2 10\n1/2 : 10 11", drawing_of_text(12, "1/2 : 2 10", "1/2 : 10 11")),
    ("houses 2\n" + LONGEST, (2, [((1, FORTY), (0,)), ((FORTY - 1, FORTY), (1,))])),
]

LISTS = [
    ("0", [ZERO]), ("1", [ONE]), ("-1", [(-1, 1)]), ("1/2", [HALF]), ("-1/2", [(-1, 2)]), ("10", [(10, 1)]),
    ("-20/3", [(-20, 3)]), ("0 0", [ZERO, ZERO]), ("1/2 -3/4 0 5", pairs_of("1/2 -3/4 0 5")), ("100/101", [(100, 101)]),
    (str(FORTY), [(FORTY, 1)]), ("-" + str(FORTY), [(-FORTY, 1)]), ("1/" + str(FORTY), [(1, FORTY)]),
    (str(FORTY - 1) + "/" + str(FORTY), [(FORTY - 1, FORTY)]),
    ("-" + str(FORTY) + "/" + str(FORTY - 1), [(-FORTY, FORTY - 1)]),
]

# None of these is a fraction that is written well.
BAD_WORDS = [
    "", "+1", "+1/2", "1/+2", "-0", "-0/1", "00", "01", "-01", "1/02", "01/2", "001/2", "0/1", "1/1", "5/1", "-3/1",
    "0/2", "0/5", "2/4", "-2/4", "6/3", "1/0", "0/0", "-1/0", "1/-2", "-1/-2", "--1", "-", "/", "/2", "1/", "-/2",
    "1/2/3", "1//2", "1/2/", "1.5", "0.5", "1e3", "1_000", "1,5", "x", "1x", "x1", "a/b", "0x1", "None", "True",
    "(1, 2)", ":", "1:2", "1\\2", "1-", "1/2-", "- 1", "~", "\n", "1\n", "\n1", "1/\n2", str(FORTY_ONE),
    "-" + str(FORTY_ONE), "1/" + str(FORTY_ONE), str(FORTY_ONE) + "/3", "-" + str(FORTY_ONE) + "/3", "0" * 41,
    "9" * 6000, "1/" + "9" * 5998, "0" * 40, "-" * 40,
]

BAD_LISTS = BAD_WORDS + [
    " ", "  ", " 1", "1 ", "1  2", " 1 2", "1 2 ", "1\n2", "1 2\n", "\n1 2", "1 \n2", "1/ 2", "1 /2", "1 / 2", "1 + 2",
    "1, 2", "1;2", "1 ; 2", "1 x", "x 1", "houses 1\n1 : 0", "houses 1", "1 : 0", " " * 6000,
]

BAD_DRAWING_TEXTS = [
    "", "\n", " ", "houses", "houses 1", "houses 1\n", "houses ", "1", "1 : 0", "\n1 : 0", "houses\n1 : 0",
    "houses \n1 : 0", "house 1\n1 : 0", "Houses 1\n1 : 0", "HOUSES 1\n1 : 0", "houses1\n1 : 0", "houses  1\n1 : 0",
    " houses 1\n1 : 0", "houses 1 \n1 : 0", "houses 1 1\n1 : 0", "houses 1 : 0", "houses 1; 1 : 0", "houses 1 ; 1 : 0",
    "1 houses\n1 : 0", "houses 01\n1 : 0", "houses +1\n1 : 0", "houses -1\n1 : 0", "houses 1/1\n1 : 0",
    "houses 2/2\n1 : 0", "houses x\n1 : 0", "houses 0\n1 :", "houses 13\n1 : 0", "houses 00\n1 :", "houses 1/2\n1 :",
    "houses 1.0\n1 : 0", "houses 012\n1 : 0", "houses " + "1" * 40 + "\n1 : 0", "houses " + "1" * 41 + "\n1 : 0",
    "houses " + "9" * 5000 + "\n1 : 0", "houses 1\n1 : 0\n", "houses 1\n1 : 0\n\n", "\nhouses 1\n1 : 0",
    "houses 1\n\n1 : 0", "houses 1\n1 : 0 ", "houses 1\n1 :  0", "houses 1\n1  : 0", "houses 1\n 1 : 0",
    "houses 1\n1: 0", "houses 1\n1 :0", "houses 1\n1:0", "houses 1\n1 0", "houses 1\n1", "houses 1\n: 0",
    "houses 1\n : 0", "houses 1\n1 : : 0", "houses 1\n1 :: 0", "houses 1\n1 : 0 :", "houses 1\n1 ; 0", "houses 1\n1 : ",
    "houses 1\n1 :\n", "houses 1\n 1 :", "houses 1\n1 :\n1 : 0", "houses 1\nhouses 1\n1 : 0", "houses 1\n1 : 00",
    "houses 1\n1 : +0", "houses 1\n1 : -0", "houses 1\n1 : 0/1", "houses 2\n1 : 01", "houses 2\n1 : 0,1",
    "houses 2\n1 : 0  1", "houses 2\n1 : 01 ", "houses 2\n1 : (0,)", "houses 1\n1 : x", "houses 1\n1 : 1",
    "houses 1\n1 : -1", "houses 2\n1 : " + "1" * 40, "houses 2\n1 : " + "1" * 41, "houses 2\n1 : " + "1" * 5000,
    "houses 1\n1 : 0 0", "houses 2\n1 : 1 0", "houses 2\n1 : 0 0", "houses 2\n1 : 1 1", "houses 2\n1 : 2",
    "houses 2\n1 : 0 2", "houses 2\n1/2 : 1\n1/2 : 0", "houses 2\n1/2 : 0\n1/2 : 0", "houses 2\n1/2 : 0\n1/2 :",
    "houses 2\n1/2 : 0\n1/3 : 1", "houses 2\n1/2 : 0\n2/3 : 1", "houses 2\n0 : 0\n1 : 1", "houses 2\n2 : 0\n-1 : 1",
    "houses 2\n3/2 : 0\n-1/2 : 1", "houses 2\n1/2 : 0", "houses 2\n2 : 0", "houses 2\n1/2 : 0 1/2 : 1",
    "houses 2\n1/2 : 0 ; 1/2 : 1", "houses 2\n" + TOO_LONG, "houses 2\n1/2 : 0\n\n1/2 : 1",
    "houses 2\n1/2 : 0\n1/2 : 1\n", "houses 2\n1/2 : 0\n1/2 : 1\n0 :", "0", "1/2 1/2", "houses 2\n1/2 : 0 \n1/2 : 1",
    "houses 2\n1/2 : 0\n 1/2 : 1", "houses 2\n\n1/2 : 0\n1/2 : 1",
]


class ShownDrawing(Case):
    def test_worked_out_by_hand(self):
        for text, drawing in TEXTS:
            self.assert_told(shown_drawing(drawing), text)

    def test_the_documents_rows(self):
        drawing = drawing_of_text(3, "1/2 :", "1/2 : 0 2")
        self.assert_told(shown_drawing(drawing), "houses 3\n1/2 :\n1/2 : 0 2")

    def test_numbers_of_more_than_forty_figures_are_shown(self):
        long = (1, [((1, 7 ** 900), ()), ((7 ** 900 - 1, 7 ** 900), (0,))])
        self.assert_told(shown_drawing(long), f"houses 1\n1/{7 ** 900} :\n{7 ** 900 - 1}/{7 ** 900} : 0")

    def test_every_lot_of_twelve_houses(self):
        lines = shown_drawing(even_drawing(12)).split("\n")
        self.assertEqual(len(lines), 4097)
        self.assertEqual(lines[:3] + lines[-1:], ["houses 12", "1/4096 :", "1/4096 : 0", "1/4096 : 11"])

    def test_no_drawing(self):
        for thing in BAD_DRAWINGS:
            self.assert_refused(NoDrawing, shown_drawing, thing)


class ShownList(Case):
    def test_worked_out_by_hand(self):
        for text, some in LISTS:
            self.assert_told(shown_list(some), text)

    def test_numbers_of_more_than_forty_figures_are_shown(self):
        self.assert_told(shown_list([(-FORTY_ONE, 1), (1, FORTY_ONE)]), f"-{FORTY_ONE} 1/{FORTY_ONE}")
        self.assert_told(shown_list([(7 ** 4700, 1)]), str(7 ** 4700))

    def test_as_many_as_there_are(self):
        self.assert_told(shown_list([HALF] * 13), " ".join(["1/2"] * 13))
        self.assert_told(shown_list([ZERO] * 1000), "0" + " 0" * 999)

    def test_no_worths(self):
        for good in (pairs_of("1/2 -3/4 0 5"), [ONE]):
            for thing in bad_lists(good):
                if thing not in ([good[0]] * 2, good[:-1], good + [ZERO], good + [ONE], good + good) or thing == []:
                    self.assert_refused(NoWorths, shown_list, thing)
        for thing in ([], (), None, "1/2", HALF, [None], [[1, 2]], [HALF, (2, 4)], [(True, 1)], [(1, True)],
                      [HALF] * 999 + [1]):
            self.assert_refused(NoWorths, shown_list, thing)


class ReadDrawing(Case):
    def test_worked_out_by_hand(self):
        for text, drawing in TEXTS:
            self.assert_told(read_drawing(text), drawing)

    def test_there_and_back(self):
        found = 0
        for drawing in GOOD + MADE:
            text = shown_drawing(drawing)
            if max(len(figures) for figures in re.findall("[0-9]+", text)) <= 40:
                self.assert_told(read_drawing(text), drawing)
                found += 1
            else:
                self.assert_refused(NoText, read_drawing, text)
        self.assertGreater(found, 50)

    def test_texts_that_miss_in_one_thing(self):
        for text in BAD_DRAWING_TEXTS:
            self.assert_refused(NoText, read_drawing, text)

    def test_chances_that_are_not_written_well(self):
        for word in BAD_WORDS:
            self.assert_refused(NoText, read_drawing, f"houses 2\n{word} : 0\n1/2 : 1")
            self.assert_refused(NoText, read_drawing, f"houses 2\n1/2 : 0\n{word} : 1")
            self.assert_refused(NoText, read_drawing, f"houses 2\n{word} : 0")

    def test_houses_and_counts_that_are_not_written_well(self):
        for word in BAD_WORDS + ["1/2", "-1", "2", "3"]:
            self.assert_refused(NoText, read_drawing, f"houses 2\n1 : {word}")
            self.assert_refused(NoText, read_drawing, f"houses 2\n1 : 0 {word}")
            if word not in ("2", "3"):
                self.assert_refused(NoText, read_drawing, f"houses {word}\n1 : 0")

    def test_a_sign_too_many_or_too_few(self):
        """What is read of a text that differs in one sign is either refused or shown as just that text."""
        for text in ("houses 3\n1/6 :\n1/3 : 0 2\n1/2 : 1 2", "houses 12\n1 : 10 11", "houses 1\n1 :"):
            for place in range(len(text) + 1):
                spoilt = [text[:place] + text[place + 1:]]
                for sign in " \n/:-+0123456789hx;~":
                    spoilt += [text[:place] + sign + text[place:], text[:place] + sign + text[place + 1:]]
                for other in spoilt:
                    self.check_read(other)

    def check_read(self, text):
        wanted = plain_drawing(text)
        if wanted is None:
            self.assert_refused(NoText, read_drawing, text)
        else:
            self.assert_told(read_drawing(text), wanted)
            self.assert_told(shown_drawing(wanted), text)

    def test_what_is_no_text(self):
        for thing in ODD_THINGS:
            if thing != "houses 1\n1 : 0":
                self.assert_refused(NoText, read_drawing, thing)


PLAIN_FRACTION = "(?:0|-?[1-9][0-9]{0,39})(?:/(?:[2-9]|[1-9][0-9]{1,39}))?"


def plain_fraction(word):
    if not re.fullmatch(PLAIN_FRACTION, word):
        return None
    told = as_pair(Fraction(word))
    wanted = tuple(int(part) for part in word.split("/")) if "/" in word else (int(word), 1)
    return told if told == wanted else None


def plain_drawing(text):
    lines = re.split("\n", text)
    if not re.fullmatch("houses (?:0|[1-9][0-9]*)", lines[0]):
        return None
    rows = []
    for line in lines[1:]:
        if not re.fullmatch(f"{PLAIN_FRACTION} :(?: (?:0|[1-9][0-9]*))*", line):
            return None
        rows.append((plain_fraction(line.split(" ")[0]), tuple(int(house) for house in line.split(" ")[2:])))
    told = (int(lines[0][7:]), rows)
    return told if is_drawing(told) else None


class ReadList(Case):
    def test_worked_out_by_hand(self):
        for text, some in LISTS:
            self.assert_told(read_list(text), some)

    def test_there_and_back(self):
        for many in (1, 2, 5, 12, 13, 100, 1000):
            for turn in range(4):
                some = some_list(many, turn)
                self.assert_told(read_list(shown_list(some)), some)

    def test_texts_that_miss_in_one_thing(self):
        for text in BAD_LISTS:
            self.assert_refused(NoText, read_list, text)
        for word in BAD_WORDS:
            for text in (f"1/2 {word}", f"{word} 1/2", f"1 {word} 2"):
                self.assert_refused(NoText, read_list, text)

    def test_numbers_of_forty_and_of_forty_one_figures(self):
        for text in ("{}", "-{}", "1/{}", "-1/{}", "0 {}", "{} 0", "1/2 1/{} 1/2"):
            self.assert_told(shown_list(read_list(text.format("1" * 40))), text.format("1" * 40))
            self.assert_refused(NoText, read_list, text.format("1" * 41))
            self.assert_refused(NoText, read_list, text.format("1" * 5000))

    def test_a_sign_too_many_or_too_few(self):
        for text in ("1/2 -3/4 0 5", "10", "-12/35"):
            for place in range(len(text) + 1):
                spoilt = [text[:place] + text[place + 1:]]
                for sign in " \n/:-+0123456789x;~":
                    spoilt += [text[:place] + sign + text[place:], text[:place] + sign + text[place + 1:]]
                for other in spoilt:
                    wanted = [plain_fraction(word) for word in other.split(" ")]
                    if None in wanted:
                        self.assert_refused(NoText, read_list, other)
                    else:
                        self.assert_told(read_list(other), wanted)
                        self.assert_told(shown_list(wanted), other)

    def test_what_is_no_text(self):
        for thing in ODD_THINGS:
            if thing != "1/2":
                self.assert_refused(NoText, read_list, thing)


class AskersOwn(Case):
    def test_nothing_is_changed(self):
        for text, drawing in TEXTS:
            self.assert_askers_own(shown_drawing, drawing)
            self.assert_askers_own(read_drawing, text)
        for text, some in LISTS:
            self.assert_askers_own(shown_list, some)
            self.assert_askers_own(read_list, text)


if __name__ == "__main__":
    unittest.main()
