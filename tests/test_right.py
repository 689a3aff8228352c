"""Point 23: weights put right by a known sum, by hand and against a plain telling of the document's words."""

import unittest
from fractions import Fraction

from sharesample.errors import NoBottom, NoLot, NoWeights, NoWorths
from sharesample.guesses import right_weights
from sharesample.right import moved_by, put_right
from tests.helper import HALF, ODD_THINGS, ONE, ZERO, Case, as_pair, bad_lists, numbers_of, pairs_of
from tests.test_drawings import THREE
from tests.test_guesses import MISSED, some_list
from tests.test_spreads import LONG_TWOS

WEIGHTS = pairs_of("2 3 4")
HELPS = pairs_of("1 5 2")
LOTS = [(0,), (1,), (2,), (0, 1), (0, 2), (1, 2), (0, 1, 2)]
# No rising tuples of unlike houses out of three.
NO_LOTS = [
    [0, 2], [], [0], (2, 0), (0, 0), (0, 1, 1), (1, 0, 2), (0, 2, 1), (3,), (0, 3), (-1,), (-1, 0), (0, 1, 2, 3),
    (True,), (False,), (0, True), (False, 1), (None,), ("0",), ((0,),), ([0],), (0, None), "0 2", "", 0, None,
    (10 ** 59,), ((0, 2),), [(0, 2)],
] + [thing for thing in ODD_THINGS if thing not in ((), (0, 2), (1,))]

NO_LOTS_OF_ONE = [(1,), (0, 0), (True,), (False,), [0], (0, 1), (-1,), None, "0"]


def plain_put_right(weights, lot, helps, total):
    w = numbers_of(weights)
    h = numbers_of(helps)
    number = (Fraction(*total) - sum(w[i] * h[i] for i in lot)) / sum(w[i] * h[i] ** 2 for i in lot)
    return [as_pair(w[i] * (1 + number * h[i])) if i in lot else weights[i] for i in range(len(w))]


def plain_moved_by(weights, lot, others):
    w = numbers_of(weights)
    o = numbers_of(others)
    return as_pair(sum(((o[i] - w[i]) ** 2 / w[i] for i in lot), Fraction(0)))


def above_nought(many, turn):
    return [(abs(top) + 1, 1) if bottom == 1 else as_pair(abs(Fraction(top, bottom)) + Fraction(1, 7))
            for top, bottom in some_list(many, turn)]


def helped_sum(weights, lot, helps):
    return as_pair(sum((Fraction(*weights[i]) * Fraction(*helps[i]) for i in lot), Fraction(0)))


def is_list_of_some(thing):
    """A list of fractions of another length is still a list of one to twelve of them."""
    if not isinstance(thing, list) or not 1 <= len(thing) <= 12:
        return False
    return all(isinstance(part, tuple) and len(part) == 2 and [type(number) for number in part] == [int, int]
               and part[1] > 0 and as_pair(Fraction(*part)) == part for part in thing)


def cases():
    """Weights above 0, lots, helps and totals of either sign, always the same ones."""
    for many in (1, 2, 3, 5, 12):
        for turn in range(6):
            lot = tuple(house for house in range(many) if (house * 5 + turn) % 3 != 0 or many < 3)
            helps = some_list(many, turn + 3)
            if any(helps[house] != ZERO for house in lot):
                yield above_nought(many, turn), lot, helps, some_list(1, turn + 1)[0]


class PutRight(Case):
    def test_worked_out_by_hand(self):
        # 2 + 8 is 10 short of 20, through 2 + 16: the number is 5/9.
        self.assert_told(put_right(WEIGHTS, (0, 2), HELPS, (20, 1)), pairs_of("28/9 3 76/9"))
        # 3 times 5 is 5 over 10, through 75: the number is -1/15.
        self.assert_told(put_right(WEIGHTS, (1,), HELPS, (10, 1)), pairs_of("2 2 4"))
        self.assert_told(put_right(pairs_of("1/2"), (0,), pairs_of("1/3"), (1, 1)), pairs_of("3"))

    def test_weights_may_come_to_nought_or_below(self):
        self.assert_told(put_right(WEIGHTS, (1,), HELPS, ZERO), pairs_of("2 0 4"))
        self.assert_told(put_right(WEIGHTS, (1,), HELPS, (-15, 1)), pairs_of("2 -3 4"))
        # 10 through 18 less: the number is -5/9, with 2 for the second.
        self.assert_told(put_right(WEIGHTS, (0, 2), HELPS, ZERO), pairs_of("8/9 3 -4/9"))

    def test_helps_of_either_sign_and_nought(self):
        # 2 - 3 is 5 short of 4, through 2 + 3: the number is 1; the house with the help 0 stays.
        self.assert_told(put_right(pairs_of("2 3 4"), (0, 1, 2), pairs_of("1 -1 0"), (4, 1)), pairs_of("4 0 4"))

    def test_the_weights_stay_where_the_sum_is_right_already(self):
        self.assert_told(put_right(WEIGHTS, (0, 2), HELPS, (10, 1)), WEIGHTS)
        self.assert_told(put_right(pairs_of("2 1"), (0, 1), pairs_of("1 -2"), ZERO), pairs_of("2 1"))
        for weights, lot, helps, total in cases():
            self.assert_told(put_right(weights, lot, helps, helped_sum(weights, lot, helps)), weights)

    def test_the_sum_is_the_total(self):
        for weights, lot, helps, total in cases():
            told = put_right(weights, lot, helps, total)
            self.assert_told(helped_sum(told, lot, helps), total)

    def test_houses_outside_of_the_lot_stay(self):
        outside = pairs_of("0 2 -7/3 3 0")
        told = put_right(outside, (1, 3), pairs_of("5 1 7 2 -1"), (20, 1))
        self.assert_told(told, pairs_of("0 26/7 -7/3 57/7 0"))
        for weights, lot, helps, total in cases():
            told = put_right(weights, lot, helps, total)
            for house in range(len(weights)):
                if house not in lot:
                    self.assert_told(told[house], weights[house])

    def test_against_the_plain_telling(self):
        found = 0
        for weights, lot, helps, total in cases():
            self.assert_told(put_right(weights, lot, helps, total), plain_put_right(weights, lot, helps, total))
            found += 1
        self.assertGreater(found, 20)
        for lot in LOTS:
            self.assert_told(put_right(WEIGHTS, lot, HELPS, (-7, 3)), plain_put_right(WEIGHTS, lot, HELPS, (-7, 3)))

    def test_no_other_weights_of_that_sum_are_moved_less(self):
        found = 0
        for weights, lot, helps, total in cases():
            told = put_right(weights, lot, helps, total)
            least = Fraction(*moved_by(weights, lot, told))
            for one, other in zip(lot, lot[1:]):
                for step in (Fraction(1, 1000), Fraction(-3, 2)):
                    # What one house's help gains the other one's loses, so the sum stays.
                    others = numbers_of(told)
                    others[one] += step * Fraction(*helps[other])
                    others[other] -= step * Fraction(*helps[one])
                    others = [as_pair(number) for number in others]
                    self.assert_told(helped_sum(others, lot, helps), total)
                    if others != told:
                        self.assertGreater(Fraction(*moved_by(weights, lot, others)), least)
                        found += 1
        self.assertGreater(found, 100)

    def test_what_was_told_is_taken_again(self):
        weights = right_weights(LONG_TWOS)
        told = put_right(weights, (0, 2), pairs_of("1 2 999999999989"), (7, 999999999961))
        again = put_right(told, (1,), told, told[0])
        self.assert_told(again, plain_put_right(told, (1,), told, told[0]))

    def test_refusals(self):
        for weights, lot, helps, no_lots in (
                (WEIGHTS, (0, 2), HELPS, NO_LOTS), ([(2, 1)], (0,), [ONE], NO_LOTS_OF_ONE)):
            no_weights = [thing for thing in bad_lists(weights) if not is_list_of_some(thing)]
            noughts = [[as_pair(number)] + weights[1:] for number in (0, -1, Fraction(-1, 7))]
            self.assert_refusals(put_right, (weights, lot, helps, (20, 1)), [
                (NoWeights, 0, no_weights), (NoLot, 1, no_lots), (NoWeights, 0, noughts),
                (NoWorths, 2, bad_lists(helps)), (NoBottom, 2, [[ZERO] * len(helps)])])

    def test_no_list_of_one_to_twelve_weights(self):
        for many in (0, 13, 14, 1000):
            self.assert_refused(NoWeights, put_right, [ONE] * many, (0,), [ONE] * many, ONE)
            self.assert_refused(NoWeights, put_right, [ONE] * many, (), [ONE] * many, ONE)
            self.assert_refused(NoWeights, put_right, [ONE] * many, (99,), [ONE] * many, ONE)
        self.assert_told(put_right([ONE] * 12, (11,), [ONE] * 12, (5, 1)), [ONE] * 11 + [(5, 1)])
        self.assert_told(put_right([ONE], (0,), [ONE], (5, 1)), [(5, 1)])

    def test_a_weight_that_is_not_above_nought(self):
        for bad in (ZERO, (-1, 1), (-1, 999999999989)):
            weights = [bad, (2, 1), bad, (3, 1)]
            self.assert_refused(NoWeights, put_right, weights, (0,), [ONE] * 4, ONE)
            self.assert_refused(NoWeights, put_right, weights, (1, 2, 3), [ONE] * 4, ONE)
            self.assert_refused(NoWeights, put_right, weights, (0, 2), [ONE] * 4, ONE)
            # Outside of the lot it is no matter; behind it come the helps.
            self.assert_told(put_right(weights, (1, 3), [ONE] * 4, (10, 1)), [bad, (4, 1), bad, (6, 1)])
            self.assert_refused(NoWeights, put_right, weights, (0, 1), [ONE] * 3, ONE)
            self.assert_refused(NoWeights, put_right, weights, (0, 1), [ZERO] * 4, ONE)
            self.assert_refused(NoLot, put_right, weights, (1, 0), [ONE] * 4, ONE)
            self.assert_refused(NoWorths, put_right, weights, (1, 3), [ONE] * 3, ONE)

    def test_weights_of_a_house_in_no_lot_are_none(self):
        self.assert_refused(NoWeights, put_right, right_weights(MISSED), (0, 2), [ONE] * 4, ONE)

    def test_no_bottom(self):
        self.assert_refused(NoBottom, put_right, WEIGHTS, (0, 2), pairs_of("0 5 0"), (20, 1))
        self.assert_refused(NoBottom, put_right, WEIGHTS, (0, 2), pairs_of("0 5 0"), ZERO)
        self.assert_refused(NoWorths, put_right, WEIGHTS, (0, 2), pairs_of("0 5"), ZERO)
        self.assert_told(put_right(WEIGHTS, (0, 1), pairs_of("0 5 0"), (20, 1)), pairs_of("2 4 4"))

    def test_the_lot_of_none(self):
        for total in (ZERO, ONE):
            self.assert_refused(NoBottom, put_right, WEIGHTS, (), HELPS, total)
            self.assert_refused(NoBottom, put_right, [ZERO], (), [ONE], total)
        self.assert_refused(NoWorths, put_right, WEIGHTS, (), HELPS[:2], ONE)
        self.assert_refused(NoLot, put_right, WEIGHTS, [], HELPS, ONE)


class MovedBy(Case):
    def test_worked_out_by_hand(self):
        # (10/9) squared through 2, and (40/9) squared through 4.
        self.assert_told(moved_by(WEIGHTS, (0, 2), pairs_of("28/9 3 76/9")), (50, 9))
        self.assert_told(moved_by(WEIGHTS, (0, 1, 2), pairs_of("1 5 4")), as_pair(Fraction(1, 2) + Fraction(4, 3)))
        self.assert_told(moved_by(WEIGHTS, (2,), pairs_of("9 9 -4")), (16, 1))
        self.assert_told(moved_by([HALF], (0,), [(-1, 3)]), (25, 18))

    def test_nothing_moved(self):
        for lot in LOTS + [()]:
            self.assert_told(moved_by(WEIGHTS, lot, WEIGHTS), ZERO)

    def test_the_lot_of_none(self):
        self.assert_told(moved_by(WEIGHTS, (), pairs_of("9 9 9")), ZERO)
        self.assert_told(moved_by([ZERO], (), [ONE]), ZERO)

    def test_houses_outside_of_the_lot_add_nothing(self):
        self.assert_told(moved_by(pairs_of("0 2 -7/3"), (1,), pairs_of("5 4 6")), (2, 1))

    def test_against_the_plain_telling(self):
        for weights, lot, helps, total in cases():
            self.assert_told(moved_by(weights, lot, helps), plain_moved_by(weights, lot, helps))
            told = put_right(weights, lot, helps, total)
            self.assert_told(moved_by(weights, lot, told), plain_moved_by(weights, lot, told))

    def test_refusals(self):
        for weights, lot, others, no_lots in (
                (WEIGHTS, (0, 2), pairs_of("0 -1 7"), NO_LOTS), ([HALF], (0,), [ZERO], NO_LOTS_OF_ONE)):
            noughts = [[as_pair(number)] + weights[1:] for number in (0, -1, Fraction(-1, 7))]
            no_weights = [thing for thing in bad_lists(weights) if not is_list_of_some(thing)]
            self.assert_refusals(moved_by, (weights, lot, others), [
                (NoWeights, 0, no_weights), (NoWeights, 2, bad_lists(others)), (NoLot, 1, no_lots),
                (NoWeights, 0, noughts)])
            for thing in bad_lists(weights):
                self.assert_refused(NoWeights, moved_by, thing, lot, others)

    def test_others_come_ahead_of_the_lot(self):
        self.assert_refused(NoWeights, moved_by, WEIGHTS, (2, 0), WEIGHTS[:2])
        self.assert_refused(NoWeights, moved_by, WEIGHTS, (3,), WEIGHTS + [ONE])
        self.assert_refused(NoLot, moved_by, WEIGHTS, (3,), WEIGHTS)
        self.assert_refused(NoLot, moved_by, [ZERO] * 3, (3,), WEIGHTS)

    def test_no_list_of_one_to_twelve_weights(self):
        for many in (0, 13, 14, 1000):
            self.assert_refused(NoWeights, moved_by, [ONE] * many, (), [ONE] * many)
        self.assert_told(moved_by([ONE] * 12, (0, 11), [ZERO] * 12), (2, 1))

    def test_a_weight_that_is_not_above_nought(self):
        for bad in (ZERO, (-1, 1)):
            self.assert_refused(NoWeights, moved_by, [ONE, bad], (1,), [ONE, ONE])
            self.assert_refused(NoWeights, moved_by, [ONE, bad], (0, 1), [ONE, bad])
            self.assert_told(moved_by([ONE, bad], (0,), [ZERO, bad]), ONE)
            self.assert_refused(NoLot, moved_by, [ONE, bad], (1, 0), [ONE, ONE])


class AskersOwn(Case):
    def test_nothing_is_changed(self):
        for weights, lot, helps, total in list(cases())[:12] + [(WEIGHTS, (0, 2), HELPS, (10, 1))]:
            self.assert_askers_own(put_right, weights, lot, helps, total)
            self.assert_askers_own(moved_by, weights, lot, helps)

    def test_weights_that_stay_are_another_list(self):
        weights = right_weights(THREE)
        told = put_right(weights, (0,), [ONE] * 3, weights[0])
        told[1] = "spoilt"
        self.assert_told(weights, right_weights(THREE))


if __name__ == "__main__":
    unittest.main()
