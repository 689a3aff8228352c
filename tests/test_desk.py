"""Point 25: the desk, line by line, by hand and against a plain telling of the document's words."""

import random
import re
import unittest
from fractions import Fraction

from sharesample.desk import Desk
from sharesample.drawings import lot_shares, pair_shares
from sharesample.errors import NoLine, NoLot, NoPair, NoShares, ShareError
from sharesample.guesses import guess_mean, right_weights, whole_of
from sharesample.making import alone_drawing, line_drawing, pairs_drawing, taken_drawing
from sharesample.moved import moved_spread, nought_guess
from sharesample.spreads import blind_worths, guess_spread, spread_guess
from sharesample.texts import shown_drawing
from tests.helper import ODD_THINGS, ONE, Case, as_pair

TWELVE = "9" * 12
THIRTEEN = "1" + "0" * 12
# Shares of 2/3 each, two of three houses; the worths 5, 2, 1.
THREE_LINES = ["shares 2/3 2/3 2/3", "worths 5 2 1"]

WORDS = [
    "shares", "taken", "pairs", "alone", "worths", "share", "pair", "mean", "spread", "whole", "base", "ask", "text",
    "blind", "put",
]
OTHER_WORDS = ["", "asks", "Mean", "layers", ":", "houses"]
RESTS = [
    "", " ", " 0", " 1", " 2", " 0 1", " 1 0", " 1 1", " 0 2", " 1 2", " 0 1 2", " 1/2 1/2", " 1/3 2/3", " -1/2 5",
    " 1/2 1/3 1/6", " 2/3 2/3 2/3", " 0 1/2", " 1 -3/4", " 2 7/5", " 1/2 1/4 1/4 1", " 1 1 1", " 2/4 1/2", " x",
    " 1/2 1/3 1/4", f" 0 {TWELVE}", f" 0 {THIRTEEN}", " 1/2  1/2", " +1", " -0", " 1/2 ", " 3", " 0 0", " 1 1 0",
]
MAKING = [
    "shares 2/3 2/3 2/3", "taken 2/3 2/3 2/3", "pairs 2/3 2/3 2/3", "alone 1/2 1/3 1/4", "alone 1/2 1/3",
    "shares 1/2 1/2", "shares 1 0", "pairs 1/2 1/2 1/2 1/2", "taken 3/4 3/4 1/2", "alone 1", "shares 1 1",
    "alone 0 1/2", "taken 1 0 1",
]
# None of these is a fraction of at most twelve figures that is written well.
BAD_FRACTIONS = [
    "", "+1", "+1/2", "1/+2", "-0", "00", "01", "-01", "1/02", "01/2", "0/1", "1/1", "3/1", "0/2", "2/4", "-2/4", "6/3",
    "1/0", "0/0", "1/-2", "--1", "-", "/", "/2", "1/", "1/2/3", "1//2", "1.5", "1e3", "1_000", "x", "a/b", "1\n", "\n1",
    THIRTEEN, "-" + THIRTEEN, "1/" + THIRTEEN, THIRTEEN + "/7", "9" * 40, "0" * 13, "9" * 5000,
]
BAD_HOUSES = [
    "00", "01", "+0", "+1", "-0", "-1", "0/1", "1/1", "1/2", "2/1", "x", "0x", "1.0", "1e0", "0_1", "", "1,", "one",
    "0" * 12, "0" * 13, "0" * 5000, "000000000001", "\n1", "1\n",
]

# What tells all that a desk knows, and changes nothing.
LOOKS = ["text", "whole", "mean", "spread", "blind", "share 0", "pair 0 0", "ask", "ask 0"]


def desk_of(*lines):
    desk = Desk()
    for line in lines:
        desk.tell(line)
    return desk


def all_lines():
    return [word + rest for word in WORDS + OTHER_WORDS for rest in RESTS]


def answer_of(desk, line):
    """The answer, or the name of the refusal's class."""
    try:
        return desk.tell(line)
    except ShareError as refusal:
        return type(refusal).__name__


def state_of(desk):
    looks = list(LOOKS)
    many = int(desk.tell("text").split(" ")[1])
    for house in range(many):
        # The spread at a base that is moved at one house tells that house's worth.
        looks.append("base " + " ".join("1" if other == house else "0" for other in range(many)))
        looks.append(f"share {house}")
        looks += [f"pair {house} {other}" for other in range(many)]
    return [answer_of(desk, look) for look in looks]


WAYS = {"shares": line_drawing, "taken": taken_drawing, "pairs": pairs_drawing, "alone": alone_drawing}
PLAIN_F = "(?:0|-?[1-9][0-9]{0,11})(?:/(?:[2-9]|[1-9][0-9]{1,11}))?"
PLAIN_H = "(?:0|[1-9][0-9]{0,11})"
PLAIN_FORMS = [
    f"(?:shares|taken|pairs|alone|worths|base)(?: {PLAIN_F})+", f"share {PLAIN_H}", f"pair {PLAIN_H} {PLAIN_H}",
    f"ask(?: {PLAIN_H})*", f"put {PLAIN_H} {PLAIN_F}", "mean|spread|whole|text|blind",
]


def written(pair):
    return str(Fraction(*pair))


def places_of(thing, some):
    return [place for place, part in enumerate(some) if part == thing]


class PlainDesk:
    def __init__(self):
        self.drawing = (1, [(ONE, (0,))])
        self.worths = [ONE]

    def tell(self, line):
        if not any(re.fullmatch(form, line) for form in PLAIN_FORMS):
            raise NoLine
        word, *rest = line.split(" ")
        many = self.drawing[0]
        houses = [int(part) for part in rest] if word in ("share", "pair", "ask") else []
        houses += [int(part) for part in rest[:1] if word == "put"]
        if any(house >= many for house in houses) or word == "ask" and houses != sorted(set(houses)):
            raise NoLine
        some = rest[1:] if word == "put" else [] if houses else rest
        if any(written(as_pair(part)) != part for part in some) or word in ("worths", "base") and len(some) != many:
            raise NoLine
        some = [as_pair(part) for part in some]
        return self.answer(word, houses, some)

    def answer(self, word, houses, some):
        if word in WAYS:
            self.drawing = WAYS[word](some)
            self.worths = [ONE] * self.drawing[0]
            return f"lots {len(self.drawing[1])}"
        if word == "worths":
            self.worths = some
            return "worths"
        if word == "put":
            self.worths[houses[0]] = some[0]
            return "put"
        if word == "whole":
            return written(whole_of(self.worths))
        if word == "text":
            return " ; ".join(shown_drawing(self.drawing).split("\n"))
        if word == "share":
            return written(lot_shares(self.drawing)[houses[0]])
        if word == "pair":
            return written(pair_shares(self.drawing)[houses[0]][houses[1]])
        return self.guessed(word, tuple(houses), some)

    def guessed(self, word, lot, some):
        weights = right_weights(self.drawing)
        if None in weights:
            raise NoPair
        if word == "mean":
            return written(guess_mean(self.drawing, weights, self.worths))
        if word == "spread":
            return written(guess_spread(self.drawing, weights, self.worths))
        if word == "base":
            return written(moved_spread(self.drawing, nought_guess(self.drawing, some), self.worths))
        if word == "blind":
            blind = blind_worths(self.drawing)
            return "none" if blind is None else " ".join(str(place) for place in places_of(ONE, blind[0]))
        spread = spread_guess(self.drawing, weights, lot, self.worths)
        guess = sum((Fraction(*weights[house]) * Fraction(*self.worths[house]) for house in lot), Fraction(0))
        return f"{guess} {written(spread)}"


class Answers(Case):
    def assert_answers(self, desk, lines):
        for line, answer in lines:
            self.assert_told(answer_of(desk, line), answer)

    def test_the_first_drawing(self):
        self.assert_answers(Desk(), [
            ("text", "houses 1 ; 1 : 0"), ("whole", "1"), ("mean", "1"), ("spread", "0"), ("share 0", "1"),
            ("pair 0 0", "1"), ("ask 0", "1 0"), ("ask", "NoLot"), ("blind", "none"), ("base 1", "0"),
            ("base -7/3", "0"), ("put 0 -7/3", "put"), ("whole", "-7/3"), ("mean", "-7/3"), ("ask 0", "-7/3 0"),
            ("worths 1/2", "worths"), ("whole", "1/2"), ("share 1", "NoLine"), ("worths 1 1", "NoLine"),
            ("ask 0 1", "NoLine"),
        ])

    def test_each_form_is_answered_from_the_first_line_on(self):
        for line, answer in [
            ("text", "houses 1 ; 1 : 0"), ("whole", "1"), ("mean", "1"), ("spread", "0"), ("share 0", "1"),
            ("pair 0 0", "1"), ("ask 0", "1 0"), ("blind", "none"), ("base 5", "0"), ("put 0 5", "put"),
            ("worths 5", "worths"), ("shares 1/2 1/2", "lots 2"), ("taken 1/2 1/2", "lots 2"),
            ("pairs 1/2 1/2", "lots 2"), ("alone 1/2 1/2", "lots 4"),
        ]:
            self.assert_told(Desk().tell(line), answer)

    def test_each_form_behind_three_ways_of_making_one_drawing(self):
        for word in ("shares", "taken", "pairs"):
            self.assert_answers(Desk(), [
                (word + " 2/3 2/3 2/3", "lots 3"), ("text", "houses 3 ; 1/3 : 0 1 ; 1/3 : 0 2 ; 1/3 : 1 2"),
                ("whole", "3"), ("worths 5 2 1", "worths"), ("whole", "8"), ("mean", "8"), ("spread", "13/2"),
                ("share 2", "2/3"), ("pair 0 2", "1/3"), ("pair 2 0", "1/3"), ("pair 1 1", "2/3"),
                ("ask 0 1", "21/2 27/4"), ("blind", "none"), ("base 5 2 1", "0"), ("base 0 0 0", "13/2"),
                ("base 5 2 0", "1/2"), ("ask 0", "NoLot"), ("ask", "NoLot"), ("ask 0 1 2", "NoLot"),
                ("put 0 2", "put"), ("whole", "5"), ("ask 0 1", "6 0"), (word + " 1", "lots 1"),
                ("text", "houses 1 ; 1 : 0"), ("whole", "1"),
            ])

    def test_taken(self):
        self.assert_answers(Desk(), [
            ("taken 1/2 1/2 1/2 1/2", "lots 2"), ("text", "houses 4 ; 1/2 : 0 1 ; 1/2 : 2 3"), ("whole", "4"),
            ("pair 0 1", "1/2"), ("pair 1 2", "0"), ("mean", "4"), ("spread", "0"), ("put 0 3", "put"), ("spread", "4"),
            ("mean", "6"), ("blind", "0 2"), ("ask 0 1", "NoPair"), ("base 3 1 1 1", "0"), ("base 0 0 0 0", "4"),
        ])

    def test_pairs(self):
        self.assert_answers(Desk(), [
            ("pairs 1/2 1/2 1/2 1/2", "lots 4"),
            ("text", "houses 4 ; 1/4 : 0 2 ; 1/4 : 0 3 ; 1/4 : 1 2 ; 1/4 : 1 3"), ("blind", "0 1"), ("pair 0 1", "0"),
            ("pair 0 2", "1/4"), ("spread", "0"), ("worths 1 0 0 0", "worths"), ("mean", "1"), ("spread", "1"),
            ("ask 0 2", "NoPair"),
        ])

    def test_alone(self):
        self.assert_answers(Desk(), [
            ("alone 1/2 1/3", "lots 4"), ("text", "houses 2 ; 1/3 : ; 1/3 : 0 ; 1/6 : 0 1 ; 1/6 : 1"),
            ("blind", "none"), ("ask", "0 0"), ("ask 0", "2 2"), ("ask 1", "3 6"), ("ask 0 1", "5 8"), ("mean", "2"),
            ("spread", "3"), ("worths -1/2 2/3", "worths"), ("whole", "1/6"), ("mean", "1/6"), ("ask 0", "-1 1/2"),
            ("ask 0 1", "1 19/6"), ("base -1/2 2/3", "0"), ("base 0 2/3", "1/4"), ("share 1", "1/3"),
            ("pair 0 1", "1/6"), ("put 0 1/3", "put"), ("whole", "1"), ("alone 0", "lots 1"),
            ("text", "houses 1 ; 1 :"), ("share 0", "0"), ("whole", "1"),
        ])

    def test_blind_tells_the_first_two(self):
        self.assert_answers(Desk(), [
            ("shares 1 1/2 1/2", "lots 2"), ("blind", "1 2"), ("shares 1/2 1/2 1", "lots 2"), ("blind", "0 1"),
            ("shares 1/3 1/3 1/3", "lots 3"), ("blind", "0 1"), ("shares 1 1 1", "lots 1"), ("blind", "none"),
            ("shares 1 1 1 1 1 1 1 1 1 1 1/2 1/2", "lots 2"), ("blind", "10 11"), ("blind", "10 11"),
        ])

    def test_a_share_of_nought(self):
        for line in ("shares 1 0", "taken 1 0", "pairs 1 0", "alone 1 0"):
            self.assert_answers(Desk(), [
                (line, "lots 1"), ("share 1", "0"), ("pair 0 1", "0"), ("whole", "2"), ("text", "houses 2 ; 1 : 0"),
                ("mean", "NoPair"), ("spread", "NoPair"), ("base 1 1", "NoPair"), ("blind", "NoPair"),
                ("ask 0", "NoPair"), ("ask 1", "NoPair"), ("ask", "NoPair"), ("ask 0 1", "NoPair"),
                ("worths 3 4", "worths"), ("whole", "7"), ("put 1 1/2", "put"), ("whole", "7/2"), ("mean", "NoPair"),
            ])

    def test_worths_are_all_1_behind_a_new_drawing(self):
        for line in ("shares 1/2 1/2", "taken 1/2 1/2", "pairs 1/2 1/2", "alone 1/2 1/2"):
            desk = desk_of("shares 1/2 1/2", "worths 5 7", "put 1 9")
            self.assertEqual(desk.tell("whole"), "14")
            desk.tell(line)
            self.assertEqual(desk.tell("whole"), "2")
            self.assertEqual(state_of(desk), state_of(desk_of(line)))
            desk.tell("put 0 3")
            desk.tell("shares 1/2 1/2 1 1 1")
            self.assertEqual(desk.tell("whole"), "5")

    def test_put_changes_one_house_alone(self):
        desk = desk_of("alone 1/2 1/2 1/2", "worths 2 3 5")
        self.assert_answers(desk, [
            ("put 1 -1/2", "put"), ("whole", "13/2"), ("ask 0", "4 8"), ("ask 1", "-1 1/2"), ("ask 2", "10 50"),
            ("put 1 0", "put"), ("put 2 7", "put"), ("put 0 -3", "put"), ("whole", "4"), ("ask 0 1 2", "8 116"),
        ])

    def test_twelve_houses(self):
        for word in ("shares", "taken", "pairs"):
            desk = desk_of(word + " 1/2" * 12)
            self.assert_answers(desk, [
                ("share 11", "1/2"), ("share 12", "NoLine"), ("put 11 7", "put"), ("put 12 7", "NoLine"),
                ("whole", "18"), ("worths" + " 2" * 12, "worths"), ("whole", "24"), ("worths" + " 2" * 11, "NoLine"),
                ("pair 11 11", "1/2"), ("worths" + " 2" * 13, "NoLine"), ("base" + " 2" * 12, "0"),
                ("base" + " 2" * 13, "NoLine"), ("ask 0 1 2 3 4 5 6 7 8 9 10 11 12", "NoLine"),
            ])

    def test_against_the_plain_desk(self):
        chance = random.Random(25)
        lines = all_lines()
        told = Desk()
        wanted = PlainDesk()
        answers = {}
        for turn in range(9000):
            line = chance.choice(MAKING if turn % 9 == 0 else lines)
            answer = answer_of(wanted, line)
            self.assert_told((turn, line, answer_of(told, line)), (turn, line, answer))
            answers.setdefault(answer if answer.startswith("No") else "told", set()).add(line.split(" ")[0])
        self.assertEqual(sorted(answers), ["NoLine", "NoLot", "NoPair", "NoShares", "told"])
        self.assertEqual(answers["told"], set(WORDS))
        self.assertEqual(answers["NoShares"], {"shares", "taken", "pairs", "alone"})
        self.assertEqual(answers["NoPair"], {"mean", "spread", "base", "blind", "ask"})
        self.assertEqual(answers["NoLot"], {"ask"})


class Refusals(Case):
    def assert_no_line(self, lines, desk_lines):
        for line in lines:
            desk = desk_of(*desk_lines)
            before = state_of(desk)
            self.assert_refused(NoLine, desk.tell, line)
            self.assertEqual(state_of(desk), before)

    def test_blanks(self):
        good = ["shares 1/2 1/2 1", "taken 1/2 1/2 1", "pairs 1/2 1/2 1", "alone 1/2 1/2 1", "worths 1 2 3", "share 0",
                "pair 0 1", "mean", "spread", "whole", "base 1 2 3", "ask 0 1", "ask", "text", "blind", "put 0 1"]
        lines = ["alone 1/2 1/2 1/2", "worths 5 2 1"]
        for line in good:
            desk_of(*lines).tell(line)
            bad = [" " + line, line + " ", "\n" + line, line + "\n", line + " \n", "  " + line, line + "  "]
            bad.append(line.replace(" ", "", 1) if " " in line else line + line)
            for place in [place for place, sign in enumerate(line) if sign == " "]:
                bad += [line[:place] + other + line[place + 1:] for other in ("  ", "\n", ",", ", ", "_", ";", " ; ")]
            self.assert_no_line(bad, lines)

    def test_other_words(self):
        self.assert_no_line([
            "", " ", "\n", "x", "1", "0 1", "1/2", "Mean", "MEAN", "means", "mea", "spreads", "wholes", "texts",
            "blinds", "asks", "puts", "bases", "worth", "worth 1 1 1", "Worths 1 1 1", "Shares 1/2 1/2", "share",
            "pair", "share shares 0", "line 1/2 1/2", "line_drawing 1/2 1/2", "houses 3", "lots", "lots 3", "none",
            "help", "quit", "draw shares 1", "~", "?", "mean?", "layered", "within", "x" * 6000, "Ask", "Ask 0 1",
            "Put 0 1", "Text", "Blind", "Pair 0 1",
        ], THREE_LINES)

    def test_too_many_or_too_few(self):
        self.assert_no_line([
            "shares", "taken", "pairs", "alone", "worths", "base", "worths 1", "worths 1 2", "worths 1 2 3 4",
            "base 1 2", "base 1 2 3 4", "share", "share 0 1", "share 0 0", "pair", "pair 0", "pair 0 1 2", "mean 0",
            "mean mean", "spread 1", "whole 1 1 1", "text 0", "blind 0 1", "put", "put 0", "put 0 1 2", "put 1/2",
            "put 0 1 1", "mean 1/2", "spread spread",
        ], THREE_LINES)

    def test_houses_that_are_not_there(self):
        self.assert_no_line([
            "share 3", "share 12", "share -1", "pair 0 3", "pair 3 0", "pair 3 3", "pair -1 0", "ask 3", "ask 0 3",
            "ask 0 1 3", "ask 0 1 2 3", "put 3 1", "put 13 1", "put -1 1", f"share {TWELVE}", f"share {THIRTEEN}",
            f"put {TWELVE} 1", f"ask 0 {TWELVE}", f"ask 0 {THIRTEEN}", f"pair 0 {THIRTEEN}", "share " + "9" * 5000,
            "ask " + "9" * 5000,
        ], THREE_LINES)

    def test_houses_that_are_not_written_well(self):
        for house in BAD_HOUSES:
            self.assert_no_line([
                f"share {house}", f"pair {house} 1", f"pair 1 {house}", f"ask {house}", f"ask 0 {house}",
                f"ask 0 1 {house}", f"put {house} 1",
            ], THREE_LINES)

    def test_houses_of_ask_that_do_not_rise(self):
        lines = ["ask 1 0", "ask 0 0", "ask 1 1", "ask 0 2 1", "ask 0 1 1", "ask 2 1 0", "ask 0 1 2 0", "ask 2 0"]
        self.assert_no_line(lines, THREE_LINES)

    def test_fractions_that_are_not_written_well(self):
        for word in BAD_FRACTIONS:
            self.assert_no_line([
                f"shares {word}", f"shares 1/2 {word}", f"shares {word} 1", f"taken {word}", f"taken 1 {word}",
                f"pairs {word}", f"pairs 1 {word}", f"alone {word}", f"alone 1 {word}", f"worths {word} 1 1",
                f"worths 1 1 {word}", f"base {word} 1 1", f"base 1 1 {word}", f"put 0 {word}",
            ], THREE_LINES)

    def test_numbers_of_twelve_and_of_thirteen_figures(self):
        desk = desk_of("shares 1/2 1/2")
        top = 10 ** 12 - 1
        for word in (f"{top}", f"-{top}", f"1/{top}", f"-{top - 1}/{top}", f"{top}/{top - 1}"):
            self.assertEqual(desk.tell(f"put 0 {word}"), "put")
            self.assertEqual(Fraction(desk.tell("whole")), Fraction(word) + 1)
            self.assertEqual(desk.tell(f"worths {word} 0"), "worths")
            self.assertEqual(Fraction(desk.tell("whole")), Fraction(word))
            self.assertEqual(desk.tell(f"base {word} 0"), "0")
            self.assertEqual(desk.tell("worths 1 1"), "worths")
        self.assertEqual(desk.tell(f"shares 1/{top} {top - 1}/{top}"), "lots 2")
        self.assertEqual(desk.tell("share 1"), f"{top - 1}/{top}")
        self.assertEqual(desk.tell(f"alone 1/{top}"), "lots 2")
        longer = 10 ** 12
        for line in (f"put 0 {longer}", f"put 0 -{longer}", f"put 0 1/{longer}", f"worths {longer}",
                     f"worths 1/{longer}", f"base {longer}", f"alone 1/{longer}", f"taken {longer}",
                     f"shares 1/{longer} {longer - 1}/{longer}"):
            self.assert_refused(NoLine, desk.tell, line)

    def test_no_shares(self):
        for word in ("shares", "taken", "pairs"):
            for rest in ("1/2", "1/2 1/3", "2", "-1 1", "3/2 1/2", "1/2 1/2 1/2", "-1", "2 -1", "1 " * 12 + "1",
                         "0 " * 999 + "0"):
                desk = desk_of(*THREE_LINES)
                before = state_of(desk)
                self.assert_refused(NoShares, desk.tell, f"{word} {rest}")
                self.assertEqual(state_of(desk), before)
            self.assertEqual(desk_of(word + " 1" * 12).tell("share 11"), "1")
        for rest in ("2", "-1", "3/2", "1/2 -1/2", "1/2 " * 7 + "1/2", "0 " * 12 + "0"):
            desk = desk_of(*THREE_LINES)
            before = state_of(desk)
            self.assert_refused(NoShares, desk.tell, f"alone {rest}")
            self.assertEqual(state_of(desk), before)
        self.assertEqual(desk_of("alone" + " 1/2" * 7).tell("share 6"), "1/2")

    def test_no_lot(self):
        desk = desk_of(*THREE_LINES)
        for line in ("ask", "ask 0", "ask 1", "ask 2", "ask 0 1 2"):
            self.assert_refused(NoLot, desk.tell, line)
        for line in ("ask 0 1", "ask 0 2", "ask 1 2"):
            desk.tell(line)

    def test_no_pair_for_two_houses_that_never_come_together(self):
        desk = desk_of("shares 1/2 1/2")
        for line in ("ask 0", "ask 1", "ask", "ask 0 1"):
            self.assert_refused(NoPair, desk.tell, line)
        for line, answer in (("mean", "2"), ("spread", "0"), ("base 1 2", "1"), ("blind", "0 1")):
            self.assertEqual(desk.tell(line), answer)

    def test_which_refusal_is_told_where_two_are_due(self):
        missed = desk_of("shares 1 0")
        for line in ("base 1", "base 1 x", "base 1 1 1", "base 1 2/4", f"base 1 {THIRTEEN}", "ask 2", "ask 1 0",
                     "ask 0 x", "ask 0 0", "ask 0 2", " ask 0", "mean 0", "blind 0", "spread "):
            self.assert_refused(NoLine, missed.tell, line)
        # Neither is a lot, but ahead of that comes the house that is never asked.
        for line in ("ask 1", "ask 0 1", "ask"):
            self.assert_refused(NoPair, missed.tell, line)
        apart = desk_of("shares 1/2 1/2")
        for line in ("ask 0 1", "ask"):
            self.assert_refused(NoPair, apart.tell, line)
        desk = Desk()
        for line in ("shares 1/2 x", "shares 2 2/4", f"shares 1/2 {THIRTEEN}", "taken 2  2", "pairs -1 ", "alone 2 +1",
                     "shares" + " 1" * 13 + " 01", "alone 3 -0"):
            self.assert_refused(NoLine, desk.tell, line)

    def test_a_refused_line_changes_nothing(self):
        for lines in ([], THREE_LINES, ["alone 1/2 1/3", "put 1 7"], ["shares 1 0", "worths 3 4"], ["pairs 1/2 1/2 1"]):
            desk = desk_of(*lines)
            before = state_of(desk)
            refused = 0
            for line in all_lines():
                if line.split(" ")[0] in ("shares", "taken", "pairs", "alone", "worths", "put"):
                    if not answer_of(desk_of(*lines), line).startswith("No"):
                        continue
                refused += answer_of(desk, line).startswith("No")
                self.assertEqual(desk.tell("whole"), before[1])
            self.assertGreater(refused, 400)
            self.assertEqual(state_of(desk), before)

    def test_what_is_no_text(self):
        for thing in ODD_THINGS:
            self.assert_refused(NoLine, Desk().tell, thing)


class AskersOwn(Case):
    def test_two_desks_know_nothing_of_one_another(self):
        one = Desk()
        other = Desk()
        first = state_of(other)
        one.tell("worths 5")
        self.assertEqual(state_of(other), first)
        one.tell("alone 1/2 1/3")
        one.tell("put 0 9")
        self.assertEqual(state_of(other), first)
        kept = state_of(one)
        other.tell("shares 2/3 2/3 2/3")
        other.tell("put 0 7")
        self.assertEqual(state_of(one), kept)
        self.assertEqual(state_of(Desk()), first)
        self.assertEqual((one.tell("whole"), other.tell("whole"), Desk().tell("whole")), ("10", "9", "1"))

    def test_the_same_is_told_whenever_it_is_asked(self):
        for lines in ([], THREE_LINES, ["alone 1/2 1/3", "put 1 7"], ["shares 1 0", "worths 3 4"]):
            desk = desk_of(*lines)
            before = state_of(desk)
            self.assertEqual(state_of(desk), before)
            self.assertEqual(state_of(desk_of(*lines)), before)

    def test_answers_are_texts_of_one_line(self):
        desk = desk_of(*THREE_LINES)
        for line in [
            "text", "mean", "spread", "whole", "blind", "share 0", "pair 0 1", "ask 0 1", "base 0 0 0", "put 0 1",
            "worths 1 1 1", "shares 1/2 1/2", "text", "blind",
        ]:
            answer = desk.tell(line)
            self.assertIs(type(answer), str)
            self.assertRegex(answer, r"\A[!-~]+( [!-~]+)*\Z")


if __name__ == "__main__":
    unittest.main()
