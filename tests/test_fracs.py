"""Point 5: fractions, against Python's own."""

import unittest
from fractions import Fraction

from sharesample.errors import NoBottom
from sharesample.fracs import frac_below, frac_by, frac_less, frac_sum, frac_times, fraction_of, is_fraction
from tests.helper import ODD_THINGS, Case, as_pair, nested

SIXTY = 10 ** 60 - 1
TOPS = [0, 1, -1, 2, -2, 3, 6, -6, 12, 35, -49, 10 ** 12 - 11, -(10 ** 12 - 11), 6 * 10 ** 58, SIXTY, -SIXTY,
        3 ** 125, -(2 ** 199)]
BOTTOMS = [1, -1, 2, -2, 3, 4, 6, -9, 35, 49, 10 ** 12 - 11, 10 ** 59, -(10 ** 59), SIXTY, -SIXTY, 2 ** 190, 3 ** 120]
SOME = sorted({as_pair(Fraction(top, bottom)) for top in TOPS for bottom in BOTTOMS})[::5]
SOME += [as_pair(text) for text in "0 1 -1 1/2 -1/2 1/3 2/3 -2/3 3/2 7 -7 5/6 -5/6".split()]


class FractionOf(Case):
    def test_worked_out_by_hand(self):
        self.assert_told(fraction_of(6, 4), (3, 2))
        self.assert_told(fraction_of(-6, 4), (-3, 2))
        self.assert_told(fraction_of(6, -4), (-3, 2))
        self.assert_told(fraction_of(-6, -4), (3, 2))
        self.assert_told(fraction_of(3, 7), (3, 7))
        self.assert_told(fraction_of(8, 2), (4, 1))
        self.assert_told(fraction_of(5, 5), (1, 1))

    def test_nought_has_one_form(self):
        for bottom in BOTTOMS:
            self.assert_told(fraction_of(0, bottom), (0, 1))

    def test_any_top_and_bottom(self):
        for top in TOPS:
            for bottom in BOTTOMS:
                self.assert_told(fraction_of(top, bottom), as_pair(Fraction(top, bottom)))

    def test_no_bottom(self):
        for top in TOPS:
            self.assert_refused(NoBottom, fraction_of, top, 0)


class Reckoning(Case):
    def test_worked_out_by_hand(self):
        self.assert_told(frac_sum((1, 6), (1, 3)), (1, 2))
        self.assert_told(frac_sum((1, 2), (-1, 2)), (0, 1))
        self.assert_told(frac_less((1, 6), (1, 2)), (-1, 3))
        self.assert_told(frac_times((2, 3), (-3, 4)), (-1, 2))
        self.assert_told(frac_by((2, 3), (-4, 3)), (-1, 2))
        self.assert_told(frac_by((0, 1), (-4, 3)), (0, 1))

    def test_every_two(self):
        for one in SOME:
            for other in SOME:
                first = Fraction(*one)
                second = Fraction(*other)
                self.assert_told(frac_sum(one, other), as_pair(first + second))
                self.assert_told(frac_less(one, other), as_pair(first - second))
                self.assert_told(frac_times(one, other), as_pair(first * second))
                self.assertIs(frac_below(one, other), first < second)
                if second != 0:
                    self.assert_told(frac_by(one, other), as_pair(first / second))

    def test_no_bottom(self):
        for one in SOME:
            self.assert_refused(NoBottom, frac_by, one, (0, 1))

    def test_what_was_told_may_be_handed_in_again(self):
        total = (0, 1)
        wanted = Fraction(0)
        for step in range(1, 40):
            total = frac_sum(frac_times(total, (10 ** 12 - 11, 10 ** 12 - 39)), (1, 10 ** 12 - step))
            wanted = wanted * Fraction(10 ** 12 - 11, 10 ** 12 - 39) + Fraction(1, 10 ** 12 - step)
        self.assert_told(total, as_pair(wanted))
        self.assertIs(is_fraction(total), True)

    def test_below(self):
        self.assertIs(frac_below((1, 3), (1, 2)), True)
        self.assertIs(frac_below((1, 2), (1, 3)), False)
        self.assertIs(frac_below((1, 2), (1, 2)), False)
        self.assertIs(frac_below((-1, 2), (-1, 3)), True)
        self.assertIs(frac_below((-1, 3), (-1, 2)), False)
        self.assertIs(frac_below((-1, 2), (0, 1)), True)
        self.assertIs(frac_below((SIXTY - 1, SIXTY), (1, 1)), True)


class IsFraction(Case):
    def test_fractions(self):
        for thing in SOME:
            self.assertIs(is_fraction(thing), True)
        for thing in [(0, 1), (1, 1), (-1, 1), (-1, 2), (SIXTY, 1), (-SIXTY, 10 ** 59), (1, SIXTY)]:
            self.assertIs(is_fraction(thing), True)

    def test_lesser_tops_and_bottoms(self):
        for top in range(-9, 10):
            for bottom in range(-9, 10):
                wanted = bottom >= 1 and as_pair(Fraction(top, bottom)) == (top, bottom)
                self.assertIs(is_fraction((top, bottom)), wanted)

    def test_what_is_none(self):
        for thing in ODD_THINGS:
            self.assertIs(is_fraction(thing), False, repr(thing)[:60])

    def test_truths_in_a_parts_place(self):
        for thing in [(True, 2), (False, 1), (1, True), (3, True), (True, True), (False, True), (True, False)]:
            self.assertIs(is_fraction(thing), False)

    def test_other_kinds_and_lengths(self):
        for thing in [[1, 2], [0, 1], (1,), (1, 2, 1), (1, 2, 3), (), ((1, 2), 1), (1, (2,)), ("1", 2), (1, "2"), "12",
                      (None, 2), (1, None), nested(20, (1, 2), tuple)]:
            self.assertIs(is_fraction(thing), False)

    def test_not_in_lowest_terms(self):
        for thing in [(2, 2), (2, 4), (-2, 4), (0, 2), (0, SIXTY), (10 ** 59, 10), (3 * 10 ** 58, 9), (-SIXTY, SIXTY)]:
            self.assertIs(is_fraction(thing), False)

    def test_a_bottom_of_nought_or_less(self):
        for thing in [(1, 0), (0, 0), (1, -1), (0, -1), (-1, -2), (1, -SIXTY)]:
            self.assertIs(is_fraction(thing), False)


class AskersOwn(Case):
    def test_nothing_is_changed(self):
        for asked in (frac_sum, frac_less, frac_times, frac_by, frac_below):
            self.assert_askers_own(asked, (3, 4), (-5, 6))
        self.assert_askers_own(fraction_of, -6, 4)
        for thing in [(1, 2), [1, 2], [[1], [2]], ([1], 2)]:
            self.assert_askers_own(is_fraction, thing)


if __name__ == "__main__":
    unittest.main()
