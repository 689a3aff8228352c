"""Points 14 to 16: spreads and guesses of them, by hand and against a plain telling of the document's words."""

import unittest
from fractions import Fraction
from itertools import combinations

from sharesample.drawings import lot_shares, lot_sizes, pair_shares
from sharesample.errors import NoDrawing, NoLot, NoPair, NoSize, NoWeights, NoWorths
from sharesample.guesses import right_weights
from sharesample.making import alone_drawing, line_drawing
from sharesample.spreads import blind_worths, gaps_guess, gaps_spread, guess_spread, pairs_spread, spread_guess
from tests.helper import HALF, ODD_THINGS, ONE, ZERO, Case, as_pair, bad_lists, drawing_of_text, numbers_of, pairs_of
from tests.test_drawings import NOBODY, SOLE, THREE, even_drawing
from tests.test_guesses import BAD_DRAWINGS, MADE, MISSED, plain_guesses, plain_spread, some_list

# Shares 5/6, 2/3 and 1/2; any two houses together have a share above 0.
TWOS = drawing_of_text(3, "1/2 : 0 1", "1/3 : 0 2", "1/6 : 1 2")
TWOS_RIGHT = pairs_of("6/5 3/2 2")
TWOS_WORTHS = pairs_of("5 2 1")
# One size, but the houses 0 and 2 never come together, nor do 1 and 3.
TURNED = drawing_of_text(4, "1/4 : 0 1", "1/4 : 0 3", "1/4 : 1 2", "1/4 : 2 3")
# Unlike sizes, the lot of none among them, and all pairs.
MIXED = drawing_of_text(3, "1/8 :", "1/4 : 0 1", "1/4 : 0 1 2", "1/8 : 0 2", "1/8 : 1 2", "1/8 : 2")
# Unlike sizes, and the house 1 is in no lot.
UNEVEN_MISSED = drawing_of_text(3, "1/2 : 0", "1/2 : 0 2")
# One size, and the house 1 is in no lot.
EVEN_MISSED = drawing_of_text(3, "1/2 : 0", "1/2 : 2")

EVEN_THREES = (5, [((1, 10), lot) for lot in combinations(range(5), 3)])
LONG = 999999999989
LONG_TWOS = (3, [((1, LONG), (0, 1)), ((LONG - 3, LONG), (0, 2)), ((2, LONG), (1, 2))])
ALL = MADE + [TWOS, TURNED, MIXED, UNEVEN_MISSED, EVEN_MISSED, EVEN_THREES, LONG_TWOS, even_drawing(5)]
PAIRED = [drawing for drawing in ALL if all(share != ZERO for line in pair_shares(drawing) for share in line)]
SIZED = [drawing for drawing in ALL if len(lot_sizes(drawing)) == 1 and ZERO not in lot_shares(drawing)]

NO_LOTS_OF_TWOS = [
    [0, 1], (1, 0), (False, 1), (0, True), (True, 2), (False, True), (0,), (1,), (), (0, 1, 2), (0, 3), (1, 3), (-1, 0),
    (0, 0), (2, 1), ((0, 1),), [(0, 1)], ((0,), (1,)), ([0], [1]), ("0", "1"), "01", "0 1", (0, None), (0, 10 ** 59),
] + [thing for thing in ODD_THINGS if thing != (0, 2)]


def plain_gap(pairs, i, j):
    return pairs[i][j] - pairs[i][i] * pairs[j][j]


def plain_pairs(drawing):
    return [numbers_of(line) for line in pair_shares(drawing)]


def plain_spread_guess(drawing, weights, lot, worths):
    pairs = plain_pairs(drawing)
    w = numbers_of(weights)
    y = numbers_of(worths)
    return sum((plain_gap(pairs, i, j) * w[i] * w[j] * y[i] * y[j] / pairs[i][j] for i in lot for j in lot), Fraction(0))


def plain_gaps(drawing, worths, i, j):
    pairs = plain_pairs(drawing)
    return -plain_gap(pairs, i, j) * (Fraction(*worths[i]) / pairs[i][i] - Fraction(*worths[j]) / pairs[j][j]) ** 2


def plain_gaps_guess(drawing, lot, worths):
    pairs = plain_pairs(drawing)
    return sum((plain_gaps(drawing, worths, i, j) / pairs[i][j] for i, j in combinations(lot, 2)), Fraction(0))


class Spreads(Case):
    def test_worked_out_by_hand(self):
        two = drawing_of_text(2, "1/2 : 0", "1/2 : 1")
        for asked in (guess_spread, pairs_spread):
            self.assert_told(asked(THREE, pairs_of("1 2 3"), pairs_of("6 5 4")), (58, 1))
            self.assert_told(asked(TWOS, TWOS_RIGHT, TWOS_WORTHS), (2, 1))
            self.assert_told(asked(two, pairs_of("2 2"), pairs_of("3 5")), (4, 1))
            self.assert_told(asked(two, pairs_of("2 2"), pairs_of("3 3")), ZERO)
            self.assert_told(asked(two, pairs_of("2 2"), pairs_of("1/2 -1/3")), as_pair("25/36"))
            self.assert_told(asked(two, pairs_of("1 4"), pairs_of("3 5")), as_pair("289/4"))

    def test_one_house(self):
        some = drawing_of_text(1, "2/3 :", "1/3 : 0")
        for asked in (guess_spread, pairs_spread):
            self.assert_told(asked(SOLE, [(3, 2)], [(7, 5)]), ZERO)
            self.assert_told(asked(NOBODY, [(3, 2)], [(7, 5)]), ZERO)
            self.assert_told(asked(some, [(3, 1)], [(5, 1)]), (50, 1))

    def test_houses_in_no_lot_add_nothing(self):
        for asked in (guess_spread, pairs_spread):
            wanted = asked(MISSED, pairs_of("1 0 2 0"), pairs_of("3 0 4 0"))
            self.assert_told(asked(MISSED, pairs_of("1 7 2 -1/3"), pairs_of("3 5 4 9")), wanted)

    def test_both_tell_the_same_number(self):
        for drawing in ALL:
            for turn in range(3):
                weights = some_list(drawing[0], turn)
                worths = some_list(drawing[0], turn + 5)
                wanted = as_pair(plain_spread(plain_guesses(drawing, weights, worths)))
                self.assert_told(guess_spread(drawing, weights, worths), wanted)
                self.assert_told(pairs_spread(drawing, weights, worths), wanted)

    def test_what_was_told_is_taken_again(self):
        worths = [guess_spread(LONG_TWOS, right_weights(LONG_TWOS), pairs_of(text))
                  for text in ("1 1/999999999961 3", "1/7 2 3", "5 -1/999999999937 0")]
        weights = right_weights(LONG_TWOS)
        wanted = as_pair(plain_spread(plain_guesses(LONG_TWOS, weights, worths)))
        self.assert_told(guess_spread(LONG_TWOS, weights, worths), wanted)
        self.assert_told(pairs_spread(LONG_TWOS, weights, worths), wanted)
        self.assert_told(gaps_spread(LONG_TWOS, worths), wanted)

    def test_refusals(self):
        for asked in (guess_spread, pairs_spread):
            for drawing, weights, worths in ((TWOS, TWOS_RIGHT, TWOS_WORTHS), (SOLE, [ONE], [HALF])):
                self.assert_refusals(asked, (drawing, weights, worths), [
                    (NoDrawing, 0, BAD_DRAWINGS), (NoWeights, 1, bad_lists(weights)),
                    (NoWorths, 2, bad_lists(worths))])
            self.assert_refused(NoWeights, asked, MISSED, right_weights(MISSED), [ONE] * 4)


class GapsSpread(Case):
    def test_worked_out_by_hand(self):
        self.assert_told(gaps_spread(TWOS, TWOS_WORTHS), (2, 1))
        self.assert_told(gaps_spread(TWOS, pairs_of("5 4 3")), ZERO)
        self.assert_told(gaps_spread(drawing_of_text(2, "1/3 : 0", "2/3 : 1"), pairs_of("1 4")), (2, 1))
        self.assert_told(gaps_spread(SOLE, [(7, 3)]), ZERO)

    def test_the_spread_of_the_guess_by_right_weights(self):
        self.assertGreater(len(SIZED), 30)
        for drawing in SIZED:
            for turn in range(3):
                worths = some_list(drawing[0], turn)
                weights = right_weights(drawing)
                wanted = as_pair(plain_spread(plain_guesses(drawing, weights, worths)))
                self.assert_told(gaps_spread(drawing, worths), wanted)
                self.assert_told(guess_spread(drawing, weights, worths), wanted)

    def test_pairs_that_never_come_together_are_no_hindrance(self):
        self.assert_told(gaps_spread(TURNED, pairs_of("1 0 0 0")), ONE)

    def test_refusals(self):
        self.assert_refusals(gaps_spread, (TWOS, TWOS_WORTHS), [
            (NoDrawing, 0, BAD_DRAWINGS), (NoSize, 0, [UNEVEN_MISSED, MIXED, even_drawing(3)]),
            (NoPair, 0, [EVEN_MISSED, drawing_of_text(3, "1 :"), drawing_of_text(3, "1 : 0 1")]),
            (NoWorths, 1, bad_lists(TWOS_WORTHS))])
        self.assert_refusals(gaps_spread, (SOLE, [ONE]), [
            (NoDrawing, 0, BAD_DRAWINGS), (NoSize, 0, [drawing_of_text(1, "1/2 :", "1/2 : 0")]),
            (NoPair, 0, [NOBODY]), (NoWorths, 1, bad_lists([ONE]))])


class SpreadGuess(Case):
    def test_worked_out_by_hand(self):
        wanted = {(0, 1): (5, 1), (0, 2): (2, 1), (1, 2): (-7, 1)}
        for lot in wanted:
            self.assert_told(spread_guess(TWOS, TWOS_RIGHT, lot, TWOS_WORTHS), wanted[lot])

    def test_the_lot_of_none_and_one_house(self):
        both = alone_drawing(pairs_of("1/2 1/3"))
        weights = pairs_of("2 5")
        worths = pairs_of("3 1")
        self.assert_told(spread_guess(both, weights, (), worths), ZERO)
        self.assert_told(spread_guess(both, weights, (0,), worths), (18, 1))
        self.assert_told(spread_guess(both, weights, (1,), worths), (50, 3))
        self.assert_told(spread_guess(both, weights, (0, 1), worths), (104, 3))
        self.assert_told(spread_guess(SOLE, [(3, 1)], (0,), [(5, 1)]), ZERO)

    def test_against_the_plain_telling_and_right_on_the_mean(self):
        self.assertGreater(len(PAIRED), 10)
        for drawing in PAIRED:
            weights = some_list(drawing[0], 3)
            worths = some_list(drawing[0], 8)
            mean = Fraction(0)
            for chance, lot in drawing[1]:
                told = spread_guess(drawing, weights, lot, worths)
                self.assert_told(told, as_pair(plain_spread_guess(drawing, weights, lot, worths)))
                mean += Fraction(*chance) * Fraction(*told)
            self.assert_told(as_pair(mean), guess_spread(drawing, weights, worths))

    def test_worths_outside_of_the_lot_change_nothing(self):
        for drawing in (TWOS, MIXED, EVEN_THREES):
            weights = some_list(drawing[0], 3)
            worths = some_list(drawing[0], 8)
            for chance, lot in drawing[1]:
                others = [worth if house in lot else (-7, 3) for house, worth in enumerate(worths)]
                self.assert_told(spread_guess(drawing, weights, lot, others),
                                 spread_guess(drawing, weights, lot, worths))

    def test_refusals(self):
        self.assert_refusals(spread_guess, (TWOS, TWOS_RIGHT, (0, 1), TWOS_WORTHS), [
            (NoDrawing, 0, BAD_DRAWINGS), (NoPair, 0, [THREE, EVEN_MISSED, UNEVEN_MISSED, drawing_of_text(3, "1 :")]),
            (NoLot, 2, NO_LOTS_OF_TWOS), (NoWeights, 1, bad_lists(TWOS_RIGHT)), (NoWorths, 3, bad_lists(TWOS_WORTHS))])

    def test_refusals_of_one_house(self):
        some = drawing_of_text(1, "1/2 :", "1/2 : 0")
        self.assert_told(spread_guess(some, [(2, 1)], (), [ONE]), ZERO)
        self.assert_refusals(spread_guess, (some, [(2, 1)], (0,), [ONE]), [
            (NoDrawing, 0, BAD_DRAWINGS), (NoPair, 0, [NOBODY]), (NoLot, 2, [(False,), [0], [], None, (1,), (0, 0)]),
            (NoWeights, 1, bad_lists([(2, 1)])), (NoWorths, 3, bad_lists([ONE]))])

    def test_two_houses_that_never_come_together_though_not_in_the_lot(self):
        drawing = drawing_of_text(4, "1/2 : 0 1 2", "1/2 : 0 1 3")
        self.assert_refused(NoPair, spread_guess, drawing, [ONE] * 4, (0, 1, 2), [ONE] * 4)
        self.assert_refused(NoPair, gaps_guess, drawing, (0, 1, 2), [ONE] * 4)


class GapsGuess(Case):
    def test_worked_out_by_hand(self):
        wanted = {(0, 1): ONE, (0, 2): (4, 1), (1, 2): ONE}
        for lot in wanted:
            self.assert_told(gaps_guess(TWOS, lot, TWOS_WORTHS), wanted[lot])
        self.assert_told(gaps_guess(SOLE, (0,), [(7, 3)]), ZERO)

    def test_against_the_plain_telling_and_right_on_the_mean(self):
        both = [drawing for drawing in PAIRED if drawing in SIZED]
        self.assertGreater(len(both), 5)
        for drawing in both:
            for turn in (2, 6):
                worths = some_list(drawing[0], turn)
                mean = Fraction(0)
                for chance, lot in drawing[1]:
                    told = gaps_guess(drawing, lot, worths)
                    self.assert_told(told, as_pair(plain_gaps_guess(drawing, lot, worths)))
                    mean += Fraction(*chance) * Fraction(*told)
                self.assert_told(as_pair(mean), gaps_spread(drawing, worths))

    def test_worths_outside_of_the_lot_change_nothing(self):
        for drawing in (TWOS, EVEN_THREES):
            worths = some_list(drawing[0], 8)
            for chance, lot in drawing[1]:
                others = [worth if house in lot else (-7, 3) for house, worth in enumerate(worths)]
                self.assert_told(gaps_guess(drawing, lot, others), gaps_guess(drawing, lot, worths))

    def test_refusals(self):
        self.assert_refusals(gaps_guess, (TWOS, (0, 1), TWOS_WORTHS), [
            (NoDrawing, 0, BAD_DRAWINGS), (NoSize, 0, [UNEVEN_MISSED, THREE, MIXED, even_drawing(3)]),
            (NoPair, 0, [EVEN_MISSED, drawing_of_text(3, "1/3 : 0", "1/3 : 1", "1/3 : 2"), drawing_of_text(3, "1 :")]),
            (NoLot, 1, NO_LOTS_OF_TWOS), (NoWorths, 2, bad_lists(TWOS_WORTHS))])


class BlindWorths(Case):
    def test_none(self):
        for drawing in (SOLE, TWOS, MIXED, EVEN_THREES, alone_drawing(pairs_of("1/2 1/3 1/4"))):
            self.assertIsNone(blind_worths(drawing))
        self.assertIsNone(blind_worths(drawing_of_text(12, "1 : 0 1 2 3 4 5 6 7 8 9 10 11")))

    def test_worked_out_by_hand(self):
        two = drawing_of_text(2, "1/2 : 0", "1/2 : 1")
        self.assert_told(blind_worths(two), [pairs_of(text) for text in ("1 1", "1 -1", "-1 1", "-1 -1")])
        self.assert_told(blind_worths(THREE), [pairs_of(text) for text in ("1 1 0", "1 -1 0", "-1 1 0", "-1 -1 0")])
        self.assert_told(blind_worths(TURNED), [
            pairs_of(text) for text in ("1 0 1 0", "1 0 -1 0", "-1 0 1 0", "-1 0 -1 0")])

    def test_lesser_pairs_first(self):
        # Never together are 0 and 3, and 1 and 2.
        drawing = drawing_of_text(4, "1/4 : 0 1", "1/4 : 0 2", "1/4 : 1 3", "1/4 : 2 3")
        self.assert_told(blind_worths(drawing)[1], pairs_of("1 0 0 -1"))
        # Never together are 1 and 2 alone.
        drawing = drawing_of_text(4, "1/2 : 0 1 3", "1/2 : 0 2 3")
        self.assert_told(blind_worths(drawing)[2], pairs_of("0 -1 1 0"))
        drawing = drawing_of_text(4, "1/2 : 0 1 2", "1/2 : 0 1 3")
        self.assert_told(blind_worths(drawing)[3], pairs_of("0 0 -1 -1"))

    def test_with_the_signs_of_the_products_the_spreads_sum_to_less_than_nought(self):
        found = 0
        for drawing in ALL:
            if ZERO not in lot_shares(drawing) and drawing not in PAIRED:
                weights = right_weights(drawing)
                spreads = [Fraction(*guess_spread(drawing, weights, worths)) for worths in blind_worths(drawing)]
                self.assertEqual(spreads[0] - spreads[1] - spreads[2] + spreads[3], -8)
                found += 1
        self.assertGreater(found, 10)

    def test_refusals(self):
        for thing in BAD_DRAWINGS:
            self.assert_refused(NoDrawing, blind_worths, thing)
        for drawing in (NOBODY, MISSED, EVEN_MISSED, UNEVEN_MISSED, drawing_of_text(3, "1 : 0 1"),
                        line_drawing(pairs_of("1/2 0 1/2")), drawing_of_text(3, "1/2 : 1", "1/2 : 2")):
            self.assert_refused(NoPair, blind_worths, drawing)


class AskersOwn(Case):
    def test_nothing_is_changed(self):
        for drawing, lot in ((TWOS, (0, 2)), (EVEN_THREES, (0, 1, 4)), (SOLE, (0,))):
            weights = some_list(drawing[0], 1)
            worths = some_list(drawing[0], 2)
            self.assert_askers_own(guess_spread, drawing, weights, worths)
            self.assert_askers_own(pairs_spread, drawing, weights, worths)
            self.assert_askers_own(gaps_spread, drawing, worths)
            self.assert_askers_own(spread_guess, drawing, weights, lot, worths)
            self.assert_askers_own(gaps_guess, drawing, lot, worths)
            self.assert_askers_own(blind_worths, drawing)

    def test_blind_worths_are_each_for_themselves(self):
        for drawing in (THREE, TURNED):
            self.assert_askers_own(blind_worths, drawing)
            told = blind_worths(drawing)
            told[0][0] = "spoilt"
            self.assert_told(told[1:], blind_worths(drawing)[1:])


if __name__ == "__main__":
    unittest.main()
