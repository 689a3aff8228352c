"""Point 20: moved guesses, by hand and against a plain telling of the document's words."""

import unittest
from fractions import Fraction

from sharesample.drawings import lot_shares
from sharesample.errors import NoDrawing, NoGuess, NoPair, NoWorths
from sharesample.guesses import guess_mean, right_weights, whole_of
from sharesample.moved import moved_mean, moved_spread, nought_guess
from sharesample.spreads import guess_spread
from tests.helper import HALF, ODD_THINGS, ONE, ZERO, Case, as_pair, bad_lists, drawing_of_text, numbers_of, pairs_of
from tests.test_drawings import NOBODY, SOLE, THREE
from tests.test_guesses import BAD_DRAWINGS, MADE, MISSED, RIGHT, plain_mean, plain_spread, some_list
from tests.test_spreads import ALL, LONG_TWOS, TWOS, TWOS_RIGHT, TWOS_WORTHS

BASE = pairs_of("1 1 2")
GUESS = (pairs_of("1 2 3"), BASE)


def plain_moved(drawing, guess, worths):
    weights = numbers_of(guess[0])
    base = numbers_of(guess[1])
    worths = numbers_of(worths)
    return [(Fraction(*chance), sum(base) + sum(weights[house] * (worths[house] - base[house]) for house in lot))
            for chance, lot in drawing[1]]


def bad_moved(good):
    weights, base = good
    bad = [list(good), (weights,), (weights, base, base), (weights, base, None), (base, [weights]), ([weights], base),
           weights, base, (), (good,), [good], ((), ()), ([], []), (weights, []), ([], base)]
    bad += [(thing, base) for thing in bad_lists(weights)]
    bad += [(weights, thing) for thing in bad_lists(base)]
    return bad + ODD_THINGS


class MovedMeanAndSpread(Case):
    def test_worked_out_by_hand(self):
        # The base sums to 4; at the worths 6, 5, 4 the lots add 0, 5 + 6, 8 and 8 + 6.
        worths = pairs_of("6 5 4")
        self.assert_told(moved_mean(THREE, GUESS, worths), as_pair(4 + Fraction(11, 3) + 2 + Fraction(14, 4)))
        self.assert_told(moved_spread(THREE, GUESS, worths), as_pair(
            Fraction(121, 3) + 16 + 49 - (Fraction(11, 3) + Fraction(11, 2)) ** 2))

    def test_at_its_base(self):
        self.assert_told(moved_mean(THREE, GUESS, BASE), (4, 1))
        self.assert_told(moved_spread(THREE, GUESS, BASE), ZERO)

    def test_one_house_and_the_lot_of_none(self):
        some = drawing_of_text(1, "2/3 :", "1/3 : 0")
        self.assert_told(moved_mean(some, ([(3, 1)], [(4, 1)]), [(7, 1)]), (7, 1))
        self.assert_told(moved_spread(some, ([(3, 1)], [(4, 1)]), [(7, 1)]), (18, 1))
        self.assert_told(moved_mean(NOBODY, ([(3, 1)], [(4, 1)]), [(7, 1)]), (4, 1))
        self.assert_told(moved_spread(NOBODY, ([(3, 1)], [(4, 1)]), [(7, 1)]), ZERO)
        self.assert_told(moved_mean(SOLE, ([(3, 1)], [(4, 1)]), [(7, 1)]), (13, 1))

    def test_a_base_of_noughts_moves_nothing(self):
        for drawing in MADE[:12]:
            weights = some_list(drawing[0], 2)
            worths = some_list(drawing[0], 5)
            guess = (weights, [ZERO] * drawing[0])
            self.assert_told(moved_mean(drawing, guess, worths), guess_mean(drawing, weights, worths))
            self.assert_told(moved_spread(drawing, guess, worths), guess_spread(drawing, weights, worths))

    def test_against_the_plain_telling(self):
        for drawing in ALL:
            for turn in range(3):
                guess = (some_list(drawing[0], turn), some_list(drawing[0], turn + 3))
                worths = some_list(drawing[0], turn + 8)
                values = plain_moved(drawing, guess, worths)
                self.assert_told(moved_mean(drawing, guess, worths), as_pair(plain_mean(values)))
                self.assert_told(moved_spread(drawing, guess, worths), as_pair(plain_spread(values)))

    def test_refusals(self):
        for asked in (moved_mean, moved_spread):
            for drawing, guess, worths in ((THREE, GUESS, BASE), (SOLE, ([ONE], [HALF]), [ZERO])):
                self.assert_refusals(asked, (drawing, guess, worths), [
                    (NoDrawing, 0, BAD_DRAWINGS), (NoGuess, 1, bad_moved(guess)), (NoWorths, 2, bad_lists(worths))])

    def test_weights_of_a_house_in_no_lot_are_none(self):
        for asked in (moved_mean, moved_spread):
            self.assert_refused(NoGuess, asked, MISSED, (right_weights(MISSED), [ONE] * 4), [ONE] * 4)


class NoughtGuess(Case):
    def test_worked_out_by_hand(self):
        self.assert_told(nought_guess(THREE, pairs_of("6 5 4")), (RIGHT, pairs_of("6 5 4")))
        self.assert_told(nought_guess(TWOS, TWOS_WORTHS), (TWOS_RIGHT, TWOS_WORTHS))
        self.assert_told(nought_guess(SOLE, [(-7, 3)]), ([ONE], [(-7, 3)]))

    def test_right_on_the_mean_for_all_worths_and_spread_nought_at_its_base(self):
        found = 0
        for drawing in ALL:
            if ZERO in lot_shares(drawing):
                continue
            base = some_list(drawing[0], 4)
            guess = nought_guess(drawing, base)
            self.assert_told(guess, (right_weights(drawing), base))
            self.assert_told(moved_spread(drawing, guess, base), ZERO)
            self.assert_told(moved_mean(drawing, guess, base), whole_of(base))
            for turn in range(3):
                worths = some_list(drawing[0], turn)
                self.assert_told(moved_mean(drawing, guess, worths), whole_of(worths))
            found += 1
        self.assertGreater(found, 30)

    def test_what_was_told_is_taken_again(self):
        base = [guess_spread(LONG_TWOS, right_weights(LONG_TWOS), pairs_of(text)) for text in ("1 2 3", "1 0 0", "0 1 7")]
        guess = nought_guess(LONG_TWOS, base)
        self.assert_told(moved_mean(LONG_TWOS, guess, TWOS_WORTHS), whole_of(TWOS_WORTHS))
        self.assert_told(moved_spread(LONG_TWOS, guess, base), ZERO)

    def test_refusals(self):
        no_share = [drawing_of_text(3, "1 :"), drawing_of_text(3, "1/2 : 0", "1/2 : 0 2"), drawing_of_text(3, "1 : 1 2")]
        self.assert_refusals(nought_guess, (THREE, BASE), [
            (NoDrawing, 0, BAD_DRAWINGS), (NoPair, 0, no_share), (NoWorths, 1, bad_lists(BASE))])
        self.assert_refusals(nought_guess, (SOLE, [ONE]), [
            (NoDrawing, 0, BAD_DRAWINGS), (NoPair, 0, [NOBODY]), (NoWorths, 1, bad_lists([ONE]))])


class AskersOwn(Case):
    def test_nothing_is_changed(self):
        for drawing in (THREE, SOLE, TWOS):
            guess = (some_list(drawing[0], 1), some_list(drawing[0], 2))
            worths = some_list(drawing[0], 3)
            self.assert_askers_own(moved_mean, drawing, guess, worths)
            self.assert_askers_own(moved_spread, drawing, guess, worths)
            self.assert_askers_own(nought_guess, drawing, worths)

    def test_the_base_is_not_the_list_that_was_handed_in(self):
        worths = pairs_of("6 5 4")
        told = nought_guess(THREE, worths)
        worths[0] = "spoilt"
        self.assert_told(told, (RIGHT, pairs_of("6 5 4")))
        told[1][1] = "spoilt"
        self.assert_told(worths, ["spoilt"] + pairs_of("5 4"))


if __name__ == "__main__":
    unittest.main()
