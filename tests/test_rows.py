"""Points 17 to 19: rows and what is forgotten of them, by hand and against a plain telling of the document's words."""

import unittest
from fractions import Fraction
from itertools import permutations

from sharesample.drawings import is_drawing
from sharesample.errors import NoDrawing, NoGuess, NoShares, NoWorths, TooMany
from sharesample.guesses import guess_mean, whole_of
from sharesample.rows import (
    forgotten_drawing, forgotten_guess, is_row_drawing, lots_mean, lots_spread, row_mean, row_spread, turns_drawing,
    turns_guess,
)
from sharesample.spreads import guess_spread
from tests.helper import (
    HALF, ODD_THINGS, ONE, ZERO, Case, as_pair, bad_lists, drawing_of_text, numbers_of, pairs_of,
)
from tests.test_drawings import BAD, GOOD, NOBODY, SOLE, THREE, even_drawing
from tests.test_guesses import BAD_DRAWINGS, MADE, plain_mean, plain_spread, some_list, some_numbers
from tests.test_making import BAD_SHARE, BAD_SUMS

# Two rows of one lot, the row of none, a row of one house.
ORDERED = drawing_of_text(3, "1/6 :", "1/4 : 0 1", "1/4 : 1 0", "1/3 : 2")
ORDERED_GUESS = [[], pairs_of("2 4"), pairs_of("6 8"), pairs_of("3")]
ORDERED_WORTHS = pairs_of("1 10 100")
# All six rows of one lot, with unlike chances.
SIX = drawing_of_text(3, "1/12 : 0 1 2", "1/4 : 0 2 1", "1/6 : 1 0 2", "1/6 : 1 2 0", "1/12 : 2 0 1", "1/4 : 2 1 0")
# Rows that aren't lots, of which none shares its lot with another.
LONE = drawing_of_text(4, "1/2 : 2 0", "1/3 : 3", "1/6 : 3 2 1")
WIDE = drawing_of_text(12, "1/5 : 0 11", "1/5 : 3", "1/5 : 11", "1/5 : 11 0", "1/5 : 11 10 9 8 7 6 5 4 3 2 1 0")
ROW_DRAWINGS = [ORDERED, SIX, LONE, WIDE]

ONLY_ROWS = ROW_DRAWINGS + [
    (2, [(ONE, (1, 0))]), (3, [(ONE, (0, 2, 1))]), drawing_of_text(2, "1/2 : 0 1", "1/2 : 1 0"),
    drawing_of_text(3, "1/4 : 0", "1/4 : 0 1", "1/4 : 0 2 1", "1/4 : 1 0"), (12, [(ONE, tuple(range(11, -1, -1)))]),
    (3, [((1, 7 ** 400), (1, 0)), ((7 ** 400 - 1, 7 ** 400), (2, 0))]),
]
# Some of those that are no drawings miss only in that a lot doesn't rise: these are row drawings.
BAD_ROW_DRAWINGS = [thing for thing in BAD if thing not in ONLY_ROWS] + [
    (2, [(HALF, (1, 0)), (HALF, (0, 1))]), (2, [(HALF, (1, 0)), (HALF, (1, 0))]), (2, [(HALF, (1, 0)), (HALF, (1,))]),
    (3, [(ONE, (1, 0, 1))]), (3, [(ONE, (2, 1, 2))]), (3, [(ONE, (2, 1, 3))]), (3, [(ONE, (1, -1))]),
    (2, [(ONE, (True, 0))]), (2, [(ONE, (1, False))]), (2, [(ONE, [1, 0])]), (2, [(HALF, (1, 0))]),
    (2, [((2, 4), (0, 1)), (HALF, (1, 0))]), (2, [(ZERO, (0, 1)), (ONE, (1, 0))]), (2, ((ONE, (1, 0)),)),
    [2, [(ONE, (1, 0))]], (True, [(ONE, (0,))]), (13, [(ONE, (1, 0))]), (2, [(ONE, (1, [0]))]), (2, [(ONE, ([], []))]),
    (2, [(ONE, (1, 0, None))]), (2, [(ONE, (1, 0) * 500)]),
]

SIZES = [pairs_of(text) for text in [
    "1", "1/2 1/2", "1/3 2/3", "1/2 1/3 1/6", "1/3 1/3 1/3", "1/4 1/4 1/4 1/4", "2/5 3/10 1/5 1/10",
    "1/5 1/5 1/5 1/5 1/5", "1/3 4/15 1/5 2/15 1/15", "1/6 1/6 1/6 1/6 1/6 1/6", "2/7 5/21 4/21 1/7 2/21 1/21",
    "1/999999999989 999999999988/999999999989", "1/999999999989 123456789012/999999999989 876543210976/999999999989",
]]
BAD_SIZES = BAD_SHARE + BAD_SUMS + ODD_THINGS + [pairs_of(text) for text in [
    "0", "1 0", "0 1", "1/2 1/2 0", "1 1", "1/2 1/3", "1/2 2/3", "3/2 -1/2", "-1/2 3/2", "2 -1", "1/3 1/3", "2",
    "1/7 1/7 1/7 1/7 1/7 1/7 1/7", "1/2 1/12 1/12 1/12 1/12 1/12 1/12", "1/999999999989 999999999987/999999999989",
]] + [tuple(pairs_of("1/2 1/2")), [(2, 2)], [(2, 4), HALF], [(True, 1)], [(1, True)], [[1, 1]], [HALF, HALF, None]]


def some_guess(drawing, turn):
    numbers = some_numbers(40, turn)
    return [[as_pair(numbers[(5 * place + 3 * turn + step) % 40]) for step in range(len(row))]
            for place, (chance, row) in enumerate(drawing[1])]


def plain_row_guesses(drawing, guess, worths):
    return [(Fraction(*chance), sum((Fraction(*weight) * Fraction(*worths[house])
                                     for house, weight in zip(row, weights)), Fraction(0)))
            for (chance, row), weights in zip(drawing[1], guess)]


def plain_forgotten(drawing, guess):
    lots = sorted({tuple(sorted(row)) for chance, row in drawing[1]})
    forgotten = []
    weights = []
    for lot in lots:
        rows = [(Fraction(*chance), row, some) for (chance, row), some in zip(drawing[1], guess) if set(row) == set(lot)]
        whole = sum(chance for chance, row, some in rows)
        forgotten.append((as_pair(whole), lot))
        weights.append([as_pair(sum(chance * Fraction(*some[row.index(house)]) for chance, row, some in rows) / whole)
                        for house in lot])
    return (drawing[0], forgotten), weights


def plain_turns(sizes, many):
    sizes = numbers_of(sizes)
    rows = []
    for row in sorted(permutations(range(len(sizes)), many)):
        chance = Fraction(1)
        for place, house in enumerate(row):
            chance *= sizes[house] / sum(sizes[other] for other in range(len(sizes)) if other not in row[:place])
        rows.append((as_pair(chance), row))
    return (len(sizes), rows)


def plain_turns_guess(sizes, many):
    """Each of the many guesses by itself, and then their mean."""
    sizes = numbers_of(sizes)
    told = []
    for row in sorted(permutations(range(len(sizes)), many)):
        sums = {house: Fraction(0) for house in row}
        for k in range(1, many + 1):
            ahead = row[:k - 1]
            for house in ahead:
                sums[house] += 1
            sums[row[k - 1]] += (1 - sum(sizes[house] for house in ahead)) / sizes[row[k - 1]]
        told.append([as_pair(sums[house] / many) for house in row])
    return told


def all_turns():
    return [(sizes, many) for sizes in SIZES for many in range(1, len(sizes) + 1)]


def bad_guesses(good):
    """Things that miss being a row guess of the same rows as a good one."""
    bad = [None, tuple(good), good[:-1], good + [[]], good + [[ONE]], [], [good], tuple(good[:-1]), good[0], good + good]
    for place, weights in enumerate(good):
        instead = bad_lists(weights) if weights else [[ONE], (), None, True, 0, "", [None], [[]], (ONE,), ONE]
        bad += [good[:place] + [thing] + good[place + 1:] for thing in instead if thing != weights]
    return bad + [thing for thing in ODD_THINGS if thing != good]


class IsRowDrawing(Case):
    def test_row_drawings(self):
        for thing in ONLY_ROWS:
            self.assertIs(is_row_drawing(thing), True, repr(thing)[:90])
            self.assertIs(is_row_drawing((13, thing[1])), False)

    def test_drawings_are_row_drawings(self):
        for thing in GOOD + MADE:
            self.assertIs(is_row_drawing(thing), True, repr(thing)[:90])

    def test_not_all_row_drawings_are_drawings(self):
        for thing in ONLY_ROWS:
            self.assertIs(is_drawing(thing), False, repr(thing)[:90])

    def test_things_that_miss_in_one_thing(self):
        self.assertEqual(len([thing for thing in BAD if thing in ONLY_ROWS]), 2)
        for thing in BAD_ROW_DRAWINGS:
            self.assertIs(is_row_drawing(thing), False, repr(thing)[:90])

    def test_things_of_every_kind(self):
        for thing in ODD_THINGS:
            self.assertIs(is_row_drawing(thing), False)
            self.assertIs(is_row_drawing((2, thing)), False)
            self.assertIs(is_row_drawing((2, [thing])), False)
            self.assertIs(is_row_drawing((2, [(thing, (1, 0))])), False)
            if thing != 1 or thing is True:
                self.assertIs(is_row_drawing((2, [(ONE, (thing, 0))])), False)
            if thing not in (2, 12) or isinstance(thing, bool):
                self.assertIs(is_row_drawing((thing, [(ONE, (1, 0))])), False)

    def test_every_count_of_houses(self):
        for many in range(-2, 16):
            self.assertIs(is_row_drawing((many, [(ONE, ())])), 1 <= many <= 12)
            self.assertIs(is_row_drawing((many, [(ONE, tuple(range(many))[::-1])])), 1 <= many <= 12)

    def test_a_thousand_rows(self):
        rows = [((1, 1000), row) for row in sorted(permutations(range(12), 3))[:1000]]
        self.assertIs(is_row_drawing((12, rows)), True)
        self.assertIs(is_row_drawing((12, rows[:-1])), False)
        self.assertIs(is_row_drawing((12, rows[:-2] + [rows[-1], rows[-2]])), False)


class ForgottenDrawing(Case):
    def test_worked_out_by_hand(self):
        self.assert_told(forgotten_drawing(ORDERED), drawing_of_text(3, "1/6 :", "1/2 : 0 1", "1/3 : 2"))
        self.assert_told(forgotten_drawing(SIX), drawing_of_text(3, "1 : 0 1 2"))
        # The rows rise, the lots of them in this order would not.
        self.assert_told(forgotten_drawing(LONE), drawing_of_text(4, "1/2 : 0 2", "1/6 : 1 2 3", "1/3 : 3"))
        self.assert_told(forgotten_drawing(WIDE), drawing_of_text(
            12, "1/5 : 0 1 2 3 4 5 6 7 8 9 10 11", "2/5 : 0 11", "1/5 : 3", "1/5 : 11"))

    def test_a_drawing_stays_as_it_is(self):
        for drawing in GOOD + MADE:
            self.assert_told(forgotten_drawing(drawing), drawing)

    def test_no_drawing(self):
        for thing in BAD_ROW_DRAWINGS + ODD_THINGS:
            self.assert_refused(NoDrawing, forgotten_drawing, thing)


class RowMeanAndSpread(Case):
    def test_worked_out_by_hand(self):
        # 0, 42, 68 and 300 with the chances 1/6, 1/4, 1/4 and 1/3.
        self.assert_told(row_mean(ORDERED, ORDERED_GUESS, ORDERED_WORTHS), (255, 2))
        self.assert_told(row_spread(ORDERED, ORDERED_GUESS, ORDERED_WORTHS), (61363, 4))
        self.assert_told(row_mean((2, [(ONE, (1, 0))]), [pairs_of("2 3")], pairs_of("5 7")), (29, 1))
        self.assert_told(row_spread((2, [(ONE, (1, 0))]), [pairs_of("2 3")], pairs_of("5 7")), ZERO)

    def test_the_row_of_none_and_one_house(self):
        self.assert_told(row_mean(NOBODY, [[]], [(7, 2)]), ZERO)
        self.assert_told(row_spread(NOBODY, [[]], [(7, 2)]), ZERO)
        self.assert_told(row_mean(SOLE, [[(2, 3)]], [(-3, 4)]), (-1, 2))
        self.assert_told(row_spread(SOLE, [[(2, 3)]], [(-3, 4)]), ZERO)

    def test_against_the_plain_telling(self):
        for drawing in ONLY_ROWS + MADE:
            for turn in range(3):
                guess = some_guess(drawing, turn)
                worths = some_list(drawing[0], turn + 4)
                values = plain_row_guesses(drawing, guess, worths)
                self.assert_told(row_mean(drawing, guess, worths), as_pair(plain_mean(values)))
                self.assert_told(row_spread(drawing, guess, worths), as_pair(plain_spread(values)))

    def test_refusals(self):
        for asked in (row_mean, row_spread):
            self.assert_refusals(asked, (ORDERED, ORDERED_GUESS, ORDERED_WORTHS), [
                (NoDrawing, 0, BAD_ROW_DRAWINGS + ODD_THINGS), (NoGuess, 1, bad_guesses(ORDERED_GUESS)),
                (NoWorths, 2, bad_lists(ORDERED_WORTHS))])
            self.assert_refusals(asked, (NOBODY, [[]], [ONE]), [
                (NoDrawing, 0, [None, (1, [(ONE, [])])]), (NoGuess, 1, bad_guesses([[]])),
                (NoWorths, 2, bad_lists([ONE]))])


class ForgottenGuess(Case):
    def test_worked_out_by_hand(self):
        self.assert_told(forgotten_guess(ORDERED, ORDERED_GUESS), [[], pairs_of("5 5"), pairs_of("3")])
        guess = [pairs_of("1 0"), pairs_of("2"), pairs_of("3 4 5")]
        self.assert_told(forgotten_guess(LONE, guess), [pairs_of("0 1"), pairs_of("5 4 3"), pairs_of("2")])
        uneven = drawing_of_text(2, "1/3 : 0 1", "2/3 : 1 0")
        self.assert_told(forgotten_guess(uneven, [pairs_of("3 6"), pairs_of("9 -3/2")]), [pairs_of("0 8")])

    def test_the_row_of_none(self):
        self.assert_told(forgotten_guess(NOBODY, [[]]), [[]])
        self.assert_told(forgotten_guess(THREE, some_guess(THREE, 1)), some_guess(THREE, 1))

    def test_against_the_plain_telling(self):
        for drawing in ONLY_ROWS + MADE:
            for turn in range(3):
                guess = some_guess(drawing, turn)
                lots, weights = plain_forgotten(drawing, guess)
                self.assert_told(forgotten_drawing(drawing), lots)
                self.assert_told(forgotten_guess(drawing, guess), weights)

    def test_the_mean_stays_and_the_spread_is_never_greater(self):
        smaller = 0
        for drawing in ONLY_ROWS + MADE[:12] + [turns_drawing(SIZES[3], 2), turns_drawing(SIZES[6], 3)]:
            for turn in range(4):
                guess = some_guess(drawing, turn)
                worths = some_list(drawing[0], turn + 2)
                lots = forgotten_drawing(drawing)
                forgotten = forgotten_guess(drawing, guess)
                self.assert_told(lots_mean(lots, forgotten, worths), row_mean(drawing, guess, worths))
                before = Fraction(*row_spread(drawing, guess, worths))
                behind = Fraction(*lots_spread(lots, forgotten, worths))
                self.assertLessEqual(behind, before)
                smaller += behind < before
        self.assertGreater(smaller, 10)

    def test_refusals(self):
        self.assert_refusals(forgotten_guess, (ORDERED, ORDERED_GUESS), [
            (NoDrawing, 0, BAD_ROW_DRAWINGS + ODD_THINGS), (NoGuess, 1, bad_guesses(ORDERED_GUESS))])


class LotsMeanAndSpread(Case):
    LOTS = drawing_of_text(3, "1/6 :", "1/2 : 0 1", "1/3 : 2")
    GUESS = [[], pairs_of("5 5"), pairs_of("3")]

    def test_worked_out_by_hand(self):
        self.assert_told(lots_mean(self.LOTS, self.GUESS, ORDERED_WORTHS), (255, 2))
        self.assert_told(lots_spread(self.LOTS, self.GUESS, ORDERED_WORTHS), (61025, 4))
        self.assert_told(lots_mean(NOBODY, [[]], [ONE]), ZERO)
        self.assert_told(lots_spread(NOBODY, [[]], [ONE]), ZERO)

    def test_against_the_plain_telling(self):
        for drawing in MADE:
            guess = some_guess(drawing, 2)
            worths = some_list(drawing[0], 5)
            values = plain_row_guesses(drawing, guess, worths)
            self.assert_told(lots_mean(drawing, guess, worths), as_pair(plain_mean(values)))
            self.assert_told(lots_spread(drawing, guess, worths), as_pair(plain_spread(values)))

    def test_like_weights_for_all_lots_are_a_guess_by_weights(self):
        for drawing in MADE:
            weights = some_list(drawing[0], 1)
            worths = some_list(drawing[0], 3)
            guess = [[weights[house] for house in lot] for chance, lot in drawing[1]]
            self.assert_told(lots_mean(drawing, guess, worths), guess_mean(drawing, weights, worths))
            self.assert_told(lots_spread(drawing, guess, worths), guess_spread(drawing, weights, worths))

    def test_refusals(self):
        for asked in (lots_mean, lots_spread):
            self.assert_refusals(asked, (self.LOTS, self.GUESS, ORDERED_WORTHS), [
                (NoDrawing, 0, ONLY_ROWS + BAD_DRAWINGS), (NoGuess, 1, bad_guesses(self.GUESS)),
                (NoWorths, 2, bad_lists(ORDERED_WORTHS))])

    def test_a_row_drawing_is_no_drawing(self):
        for asked in (lots_mean, lots_spread):
            self.assert_refused(NoDrawing, asked, ORDERED, ORDERED_GUESS, ORDERED_WORTHS)


class Turns(Case):
    def test_worked_out_by_hand(self):
        sizes = pairs_of("1/2 1/3 1/6")
        self.assert_told(turns_drawing(sizes, 2), drawing_of_text(
            3, "1/3 : 0 1", "1/6 : 0 2", "1/4 : 1 0", "1/12 : 1 2", "1/10 : 2 0", "1/15 : 2 1"))
        self.assert_told(turns_guess(sizes, 2), [pairs_of(text) for text in [
            "3/2 3/4", "3/2 3/2", "2 2/3", "2 2", "7/2 5/6", "7/2 5/4"]])
        self.assert_told(turns_drawing(sizes, 1), drawing_of_text(3, "1/2 : 0", "1/3 : 1", "1/6 : 2"))
        self.assert_told(turns_guess(sizes, 1), [pairs_of(text) for text in ("2", "3", "6")])
        self.assert_told(turns_drawing(sizes, 3), drawing_of_text(
            3, "1/3 : 0 1 2", "1/6 : 0 2 1", "1/4 : 1 0 2", "1/12 : 1 2 0", "1/10 : 2 0 1", "1/15 : 2 1 0"))
        self.assert_told(turns_guess(sizes, 3)[0], pairs_of("4/3 5/6 1/3"))

    def test_one_house(self):
        self.assert_told(turns_drawing([ONE], 1), (1, [(ONE, (0,))]))
        self.assert_told(turns_guess([ONE], 1), [[ONE]])

    def test_against_the_plain_telling(self):
        for sizes, many in all_turns():
            drawing = turns_drawing(sizes, many)
            self.assert_told(drawing, plain_turns(sizes, many))
            self.assertIs(is_row_drawing(drawing), True)
            self.assert_told(turns_guess(sizes, many), plain_turns_guess(sizes, many))

    def test_right_on_the_mean_for_all_worths_and_so_is_what_is_forgotten(self):
        for sizes, many in all_turns():
            drawing = turns_drawing(sizes, many)
            guess = turns_guess(sizes, many)
            lots = forgotten_drawing(drawing)
            self.assertIs(is_drawing(lots), True)
            forgotten = forgotten_guess(drawing, guess)
            for turn in range(2):
                worths = some_list(len(sizes), turn)
                self.assert_told(row_mean(drawing, guess, worths), whole_of(worths))
                self.assert_told(lots_mean(lots, forgotten, worths), whole_of(worths))
                self.assertLessEqual(Fraction(*lots_spread(lots, forgotten, worths)),
                                     Fraction(*row_spread(drawing, guess, worths)))

    def test_worths_like_the_sizes_are_guessed_without_spread(self):
        for sizes, many in all_turns():
            self.assert_told(row_spread(turns_drawing(sizes, many), turns_guess(sizes, many), sizes), ZERO)

    def test_all_houses_drawn(self):
        for sizes in SIZES:
            lots = forgotten_drawing(turns_drawing(sizes, len(sizes)))
            self.assert_told(lots, (len(sizes), [(ONE, tuple(range(len(sizes))))]))

    def test_sizes_that_were_told(self):
        tiny = Fraction(1, 7 ** 300)
        sizes = [as_pair(tiny), as_pair(Fraction(1, 3)), as_pair(Fraction(2, 3) - tiny)]
        for many in (1, 2, 3):
            self.assert_told(turns_drawing(sizes, many), plain_turns(sizes, many))
            self.assert_told(turns_guess(sizes, many), plain_turns_guess(sizes, many))

    def test_refusals(self):
        bad = [0, 4, 5, 6, 7, -1, 10 ** 59, -(10 ** 59), True, False, None, "1", "", (1,), [1], (1, 1), [], ()]
        for asked in (turns_drawing, turns_guess):
            self.assert_refusals(asked, (SIZES[3], 2), [(NoShares, 0, BAD_SIZES), (TooMany, 1, bad)])

    def test_both_ends_of_the_told_bounds(self):
        for asked in (turns_drawing, turns_guess):
            for count in range(1, 7):
                sizes = [(1, count)] * count
                self.assert_refused(TooMany, asked, sizes, 0)
                self.assertEqual(len(asked(sizes, 1)), 2 if asked is turns_drawing else count)
                asked(sizes, count)
                self.assert_refused(TooMany, asked, sizes, count + 1)
                self.assert_refused(TooMany, asked, sizes, True)
            self.assert_refused(NoShares, asked, [], 1)
            self.assert_refused(NoShares, asked, [], 0)
            self.assert_refused(NoShares, asked, [(1, 7)] * 7, 1)
            self.assert_refused(NoShares, asked, [(1, 7)] * 7, 8)


class AskersOwn(Case):
    def test_nothing_is_changed(self):
        for drawing in ROW_DRAWINGS + [THREE, NOBODY, even_drawing(3)]:
            guess = some_guess(drawing, 1)
            worths = some_list(drawing[0], 2)
            self.assert_askers_own(is_row_drawing, drawing)
            self.assert_askers_own(forgotten_drawing, drawing)
            self.assert_askers_own(forgotten_guess, drawing, guess)
            self.assert_askers_own(row_mean, drawing, guess, worths)
            self.assert_askers_own(row_spread, drawing, guess, worths)
            lots = forgotten_drawing(drawing)
            forgotten = forgotten_guess(drawing, guess)
            self.assert_askers_own(lots_mean, lots, forgotten, worths)
            self.assert_askers_own(lots_spread, lots, forgotten, worths)
        for thing in BAD_ROW_DRAWINGS:
            self.assert_askers_own(is_row_drawing, thing)

    def test_turns(self):
        for sizes, many in all_turns()[:12]:
            self.assert_askers_own(turns_drawing, sizes, many)
            self.assert_askers_own(turns_guess, sizes, many)

    def test_told_lists_are_each_for_itself(self):
        told = turns_guess([(1, 3)] * 3, 2)
        told[0][0] = "spoilt"
        self.assert_told(told[1:], turns_guess([(1, 3)] * 3, 2)[1:])
        drawing = drawing_of_text(3, "1/4 : 0", "1/4 : 0 1", "1/4 : 1 0", "1/4 : 2")
        guess = [[ONE], [ONE, ONE], [ONE, ONE], [ONE]]
        told = forgotten_guess(drawing, guess)
        told[0][0] = "spoilt"
        self.assert_told(told[1:], [[ONE, ONE], [ONE]])
        self.assert_told(guess, [[ONE], [ONE, ONE], [ONE, ONE], [ONE]])


if __name__ == "__main__":
    unittest.main()
