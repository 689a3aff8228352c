"""Point 13: guesses by weights, by hand and against a plain telling of the document's words."""

import unittest
from fractions import Fraction

from sharesample.drawings import lot_shares
from sharesample.errors import NoDrawing, NoWeights, NoWorths
from sharesample.guesses import guess_mean, right_weights, whole_of, wrong_worths
from sharesample.making import alone_drawing, line_drawing, pairs_drawing, taken_drawing
from tests.helper import HALF, ODD_THINGS, ONE, ZERO, Case, as_pair, bad_lists, drawing_of_text, numbers_of, pairs_of
from tests.test_drawings import BAD, GOOD, NOBODY, SOLE, THREE, even_drawing
from tests.test_making import LONGER

# Shares 1/3, 1/2 and 7/12, with the lot of none among the lots.
RIGHT = pairs_of("3 2 12/7")
# Houses 1 and 3 are in no lot.
MISSED = drawing_of_text(4, "1/4 :", "1/4 : 0", "1/2 : 0 2")
BAD_DRAWINGS = BAD + ODD_THINGS

MADE = [THREE, MISSED, SOLE, NOBODY] + GOOD[3:9] + [even_drawing(4)]
MADE += [way(shares) for way in (line_drawing, taken_drawing, pairs_drawing) for shares in LONGER[:14] + LONGER[-3:]]
MADE += [alone_drawing(pairs_of(text)) for text in ("1/2", "1/2 1/3 1/4", "1 1/2 0 1/3", "1/5 1/5 1/5 1/5")]


def some_numbers(many, turn):
    """Unlike lists of numbers of either sign and nought, always the same ones."""
    return [Fraction((7 * turn + 5 * house * house + 3 * house + turn * house) % 23 - 9, (turn + 2 * house) % 6 + 1)
            for house in range(many)]


def some_list(many, turn):
    return [as_pair(number) for number in some_numbers(many, turn)]


def plain_guesses(drawing, weights, worths):
    weights = numbers_of(weights)
    worths = numbers_of(worths)
    return [(Fraction(*chance), sum((weights[house] * worths[house] for house in lot), Fraction(0)))
            for chance, lot in drawing[1]]


def plain_mean(guesses):
    return sum((chance * guess for chance, guess in guesses), Fraction(0))


def plain_spread(guesses):
    mean = plain_mean(guesses)
    return sum((chance * (guess - mean) ** 2 for chance, guess in guesses), Fraction(0))


class GuessMean(Case):
    def test_worked_out_by_hand(self):
        two = drawing_of_text(2, "1/2 : 0", "1/2 : 1")
        self.assert_told(guess_mean(two, pairs_of("2 2"), pairs_of("3 5")), (8, 1))
        self.assert_told(guess_mean(two, pairs_of("1 4"), pairs_of("3 5")), (23, 2))
        self.assert_told(guess_mean(two, pairs_of("-2 1/3"), pairs_of("3 -1/5")), as_pair("-91/30"))

    def test_with_the_lot_of_none(self):
        # 0, 18, 10 and 22 with the chances 1/6, 1/3, 1/4 and 1/4.
        self.assert_told(guess_mean(THREE, pairs_of("1 2 3"), pairs_of("6 5 4")), (14, 1))
        self.assert_told(guess_mean(THREE, RIGHT, pairs_of("6 5 4")), (15, 1))
        self.assert_told(guess_mean(NOBODY, [(5, 1)], [(7, 1)]), ZERO)

    def test_with_houses_in_no_lot(self):
        for other in ("0 0", "1 1", "-5 1/3"):
            one, two = pairs_of(other)
            self.assert_told(guess_mean(MISSED, [(4, 3), one, (2, 1), two], [(9, 1), two, (4, 1), one]), (13, 1))

    def test_one_house(self):
        self.assert_told(guess_mean(SOLE, [ONE], [(-7, 3)]), (-7, 3))
        self.assert_told(guess_mean(SOLE, [(3, 2)], [(2, 3)]), ONE)
        self.assert_told(guess_mean(drawing_of_text(1, "2/3 :", "1/3 : 0"), [(3, 1)], [(5, 1)]), (5, 1))

    def test_against_the_plain_telling(self):
        for drawing in MADE:
            for turn in range(4):
                weights = some_list(drawing[0], turn)
                worths = some_list(drawing[0], turn + 7)
                wanted = plain_mean(plain_guesses(drawing, weights, worths))
                self.assert_told(guess_mean(drawing, weights, worths), as_pair(wanted))

    def test_long_numbers(self):
        many = 12
        drawing = pairs_drawing(LONGER[-5])
        self.assertEqual(drawing[0], many)
        weights = [as_pair(Fraction(10 ** 11 + 7 * house, 999999999989 - 2 * house)) for house in range(many)]
        worths = [as_pair(Fraction(-(10 ** 11) + 13 ** house, 999999999961 - 6 * house)) for house in range(many)]
        wanted = plain_mean(plain_guesses(drawing, weights, worths))
        self.assert_told(guess_mean(drawing, weights, worths), as_pair(wanted))
        told = [guess_mean(drawing, weights, worths)] * many
        self.assert_told(guess_mean(drawing, told, told), as_pair(plain_mean(plain_guesses(drawing, told, told))))

    def test_refusals(self):
        for drawing, weights, worths in ((THREE, RIGHT, pairs_of("6 5 4")), (SOLE, [ONE], [HALF])):
            self.assert_refusals(guess_mean, (drawing, weights, worths), [
                (NoDrawing, 0, BAD_DRAWINGS), (NoWeights, 1, bad_lists(weights)), (NoWorths, 2, bad_lists(worths))])

    def test_the_weights_of_a_house_in_no_lot_are_none(self):
        self.assert_refused(NoWeights, guess_mean, MISSED, right_weights(MISSED), [ONE] * 4)
        self.assert_refused(NoWorths, guess_mean, MISSED, [ONE] * 4, right_weights(MISSED))


class WholeOf(Case):
    def test_worked_out_by_hand(self):
        self.assert_told(whole_of(pairs_of("1/2 1/3 1/6")), ONE)
        self.assert_told(whole_of(pairs_of("1/2 -3/4 0")), (-1, 4))
        self.assert_told(whole_of(pairs_of("1/2 -1/2")), ZERO)
        self.assert_told(whole_of(pairs_of("1/999999999989 1/999999999961")),
                         as_pair(Fraction(1, 999999999989) + Fraction(1, 999999999961)))

    def test_both_ends_of_the_told_lengths(self):
        self.assert_refused(NoWorths, whole_of, [])
        self.assert_told(whole_of([(-5, 7)]), (-5, 7))
        self.assert_told(whole_of([(1, 4)] * 12), (3, 1))
        self.assert_refused(NoWorths, whole_of, [(1, 4)] * 13)
        self.assert_refused(NoWorths, whole_of, [ZERO] * 1000)

    def test_no_worths(self):
        full = pairs_of("1 2 3 4 5 6 7 8 9 10 11 12")
        for thing in bad_lists(full):
            if thing != full[:-1]:
                self.assert_refused(NoWorths, whole_of, thing)
        for thing in [(ONE,), ONE, [ONE, None], [[1, 1]], [(True, 1)], [(2, 2)], [(1, -1)], [(1, 0)], [1], [True]]:
            self.assert_refused(NoWorths, whole_of, thing)

    def test_what_was_told_is_taken_again(self):
        long = as_pair(Fraction(1, 7 ** 900))
        self.assert_told(whole_of([long, (-long[0], long[1])]), ZERO)
        self.assert_told(whole_of([long, ONE]), as_pair(1 + Fraction(*long)))


class RightWeights(Case):
    def test_worked_out_by_hand(self):
        self.assert_told(right_weights(THREE), RIGHT)
        self.assert_told(right_weights(SOLE), [ONE])
        self.assert_told(right_weights(drawing_of_text(2, "1/3 : 0", "2/3 : 1")), pairs_of("3 3/2"))

    def test_none_for_a_house_in_no_lot(self):
        self.assert_told(right_weights(MISSED), [(4, 3), None, (2, 1), None])
        self.assert_told(right_weights(NOBODY), [None])
        self.assert_told(right_weights((12, [(ONE, ())])), [None] * 12)

    def test_one_through_each_share(self):
        for drawing in MADE + GOOD:
            wanted = [as_pair(1 / Fraction(*share)) if share != ZERO else None for share in lot_shares(drawing)]
            self.assert_told(right_weights(drawing), wanted)

    def test_right_on_the_mean_for_all_worths(self):
        for drawing in MADE:
            weights = right_weights(drawing)
            if None not in weights:
                for turn in range(3):
                    worths = some_list(drawing[0], turn)
                    self.assert_told(guess_mean(drawing, weights, worths), whole_of(worths))

    def test_no_drawing(self):
        for thing in BAD_DRAWINGS:
            self.assert_refused(NoDrawing, right_weights, thing)


class WrongWorths(Case):
    def test_right_weights(self):
        self.assertIsNone(wrong_worths(THREE, RIGHT))
        self.assertIsNone(wrong_worths(SOLE, [ONE]))
        for drawing in MADE:
            weights = right_weights(drawing)
            if None not in weights:
                self.assertIsNone(wrong_worths(drawing, weights))

    def test_wrong_at_the_first_and_at_later_houses(self):
        self.assert_told(wrong_worths(THREE, pairs_of("2 2 12/7")), pairs_of("1 0 0"))
        self.assert_told(wrong_worths(THREE, pairs_of("3 1/2 12/7")), pairs_of("0 1 0"))
        self.assert_told(wrong_worths(THREE, pairs_of("3 2 7/12")), pairs_of("0 0 1"))
        self.assert_told(wrong_worths(THREE, pairs_of("3 -2 0")), pairs_of("0 1 0"))
        self.assert_told(wrong_worths(THREE, pairs_of("-3 -2 0")), pairs_of("1 0 0"))
        self.assert_told(wrong_worths(SOLE, [ZERO]), [ONE])

    def test_a_house_in_no_lot_is_found(self):
        for weight in (ZERO, ONE, (-3, 7)):
            self.assert_told(wrong_worths(MISSED, [(4, 3), weight, (2, 1), weight]), pairs_of("0 1 0 0"))
            self.assert_told(wrong_worths(MISSED, [(1, 3), weight, (2, 1), weight]), pairs_of("1 0 0 0"))
            self.assert_told(wrong_worths(NOBODY, [weight]), [ONE])
        last = drawing_of_text(3, "1/2 : 0", "1/2 : 1")
        self.assert_told(wrong_worths(last, pairs_of("2 2 1")), pairs_of("0 0 1"))

    def test_the_mean_at_them_is_not_the_whole(self):
        for drawing in MADE:
            for turn in range(4):
                weights = some_list(drawing[0], turn)
                worths = wrong_worths(drawing, weights)
                self.assertNotEqual(guess_mean(drawing, weights, worths), whole_of(worths))

    def test_weights_more_by_a_tiny_fraction(self):
        near = as_pair(3 + Fraction(1, 7 ** 400))
        self.assert_told(wrong_worths(THREE, [near] + RIGHT[1:]), pairs_of("1 0 0"))

    def test_refusals(self):
        for drawing, weights in ((THREE, RIGHT), (SOLE, [ONE]), (MISSED, [ONE] * 4)):
            self.assert_refusals(wrong_worths, (drawing, weights), [
                (NoDrawing, 0, BAD_DRAWINGS), (NoWeights, 1, bad_lists(weights))])
        self.assert_refused(NoWeights, wrong_worths, MISSED, right_weights(MISSED))


class AskersOwn(Case):
    def test_nothing_is_changed(self):
        for drawing in MADE[:12]:
            weights = some_list(drawing[0], 1)
            worths = some_list(drawing[0], 2)
            self.assert_askers_own(guess_mean, drawing, weights, worths)
            self.assert_askers_own(whole_of, worths)
            self.assert_askers_own(right_weights, drawing)
            self.assert_askers_own(wrong_worths, drawing, weights)
        self.assert_askers_own(wrong_worths, THREE, RIGHT)


if __name__ == "__main__":
    unittest.main()
