"""Points 8 to 12: drawings made of shares, by hand and against a plain telling of the document's words."""

import unittest
from fractions import Fraction
from itertools import combinations, product

from sharesample.drawings import is_drawing, lot_shares, lot_sizes
from sharesample.errors import NoShares
from sharesample.making import alone_drawing, judge_shares, line_drawing, pairs_drawing, taken_drawing
from tests.helper import HALF, ODD_THINGS, ONE, ZERO, Case, as_pair, drawing_of_text, pairs_of
from tests.test_drawings import BAD, GOOD

LONG = 10 ** 12 - 11
WAYS = (line_drawing, taken_drawing, pairs_drawing)


def written(many, chances):
    """The drawing of a dict of chances by lot."""
    return (many, [(as_pair(chances[lot]), lot) for lot in sorted(chances) if chances[lot] != 0])


def add(chances, lot, chance):
    chances[lot] = chances.get(lot, 0) + chance


def plain_line(shares):
    ends = [sum(shares[:place], Fraction(0)) for place in range(len(shares) + 1)]
    cuts = sorted({end - end // 1 for end in ends} | {Fraction(0), Fraction(1)})
    chances = {}
    for low, high in zip(cuts, cuts[1:]):
        middle = (low + high) / 2
        points = [middle + step for step in range(len(shares))]
        lot = [house for house in range(len(shares)) if any(ends[house] <= at < ends[house + 1] for at in points)]
        add(chances, tuple(lot), high - low)
    return written(len(shares), chances)


def plain_taken(shares):
    many = len(shares)
    size = int(sum(shares))
    left = list(shares)
    undealt = Fraction(1)
    chances = {}
    while undealt > 0:
        lot = max(combinations(range(many), size),
                  key=lambda some: (sorted((left[house] for house in some), reverse=True), [-house for house in some]))
        bounds = [left[house] for house in lot]
        outside = [left[house] for house in range(many) if house not in lot]
        if outside:
            bounds.append(undealt - max(outside))
        chance = min(bounds)
        add(chances, lot, chance)
        left = [part - chance if house in lot else part for house, part in enumerate(left)]
        undealt -= chance
    return written(many, chances)


def play(shares, chance, chances):
    two = [house for house, share in enumerate(shares) if share not in (0, 1)][:2]
    if not two:
        add(chances, tuple(house for house, share in enumerate(shares) if share == 1), chance)
        return
    a, b = [shares[house] for house in two]
    if a + b <= 1:
        first_wins, gets, leaves = a / (a + b), a + b, 0
    else:
        first_wins, gets, leaves = (1 - b) / (2 - a - b), 1, a + b - 1
    for (winner, loser), part in ((two, first_wins), (two[::-1], 1 - first_wins)):
        after = list(shares)
        after[winner] = gets
        after[loser] = leaves
        play(after, chance * part, chances)


def plain_pairs(shares):
    chances = {}
    play(shares, Fraction(1), chances)
    return written(len(shares), chances)


def plain_alone(shares):
    chances = {}
    for asked in product((True, False), repeat=len(shares)):
        chance = Fraction(1)
        for share, taken in zip(shares, asked):
            chance *= share if taken else 1 - share
        add(chances, tuple(house for house, taken in enumerate(asked) if taken), chance)
    return written(len(shares), chances)


PLAIN = {line_drawing: plain_line, taken_drawing: plain_taken, pairs_drawing: plain_pairs}


def short_lists():
    """All shares of up to four houses out of a few."""
    parts = [Fraction(text) for text in "0 1/4 1/3 1/2 2/3 3/4 1".split()]
    for many in (1, 2, 3, 4):
        for shares in product(parts, repeat=many):
            if sum(shares).denominator == 1:
                yield [as_pair(share) for share in shares]


LONGER = [pairs_of(text) for text in [
    "1/5 2/5 3/5 4/5", "4/5 3/5 2/5 1/5", "2/7 5/7 3/7 6/7 5/7", "1/2 1/3 1/6 1/5 4/5", "2/5 2/5 2/5 2/5 2/5",
    "3/5 3/5 3/5 3/5 3/5", "1/6 5/6 1/4 3/4 1/3 2/3", "1/2 0 1/2 1 1/3 2/3", "1/10 3/10 7/10 9/10 1/2 1/2",
    "1/3 1/3 1/3 1/3 1/3 1/3", "2/3 2/3 2/3 2/3 2/3 2/3", "1/7 2/7 3/7 4/7 5/7 6/7", "6/7 5/7 4/7 3/7 2/7 1/7",
    "1/2 1/2 1/2 1/2 1/2 1/2 1/2 1/2", "1/4 1/2 3/4 1/4 1/2 3/4 1", "0 0 1/9 8/9 0 1 1", "1/8 1/8 1/4 1/2 1/2 1/2",
    "1/12 1/12 1/12 1/12 1/12 1/12 1/12 1/12 1/12 1/12 1/12 1/12",
    "11/12 11/12 11/12 11/12 11/12 11/12 11/12 11/12 11/12 11/12 11/12 11/12",
    "1/4 1/3 1/2 2/3 3/4 1/2 1/5 4/5 1/7 6/7 1 0", "0 1 0 1 0 1 0 1 0 1 0 1",
    "1/999999999989 999999999988/999999999989", "1/999999999989 1/2 999999999988/999999999989 1/2",
    "999999999961/999999999962 1/999999999962 123456789012/999999999989 876543210977/999999999989",
]]

BAD_SHARE = [
    (), None, True, False, 0, 1, "", "1/2 1/2", (ONE,), (HALF, HALF), ONE, [], [None], [True], [False], [0], [1],
    ["1"], [[1, 1]], [[1, 2], [1, 2]], [(True, 1)], [(False, 1)], [(1, True)], [(0, True)], [ONE, True], [ZERO, False],
    [(2, 2)], [(0, 2)], [(2, 4), HALF], [HALF, (2, 4)], [(1, -1)], [(-1, -1)], [(1, 0)], [(1, 1, 1)], [(1,)], [ONE, ()],
    [[ONE]], [(3, 2), HALF], [HALF, (3, 2)], [(2, 1)], [(-1, 1)], [(-1, 2), HALF], [HALF, (-1, 2)],
    [(-1, 2), (3, 2)], [(LONG + 1, LONG), (LONG - 1, LONG)], [(-1, LONG), (1, LONG)], [ONE, None], [ONE, "1"],
]

# What point 8 refuses for its length or its sum; alone_drawing takes the latter and bounds its length by itself.
BAD_SUMS = [pairs_of(text) for text in [
    "1/2", "1/3", "1/3 1/3", "1/2 2/3", "1/2 1/2 1/2", "1 1/2", "0 1/2", "1/999999999989",
    "1/999999999989 999999999987/999999999989", "1/999999999989 999999999988/999999999991",
]]
BAD_LENGTHS = [[ZERO] * 13, [ONE] * 13, [HALF] * 14, [ONE] * 1000, [(1, 13)] * 13]


class Judging(Case):
    def test_drawings_made_of_the_shares(self):
        for shares in LONGER:
            for way in WAYS:
                self.assertIs(judge_shares(shares, way(shares)), True)

    def test_worked_out_by_hand(self):
        self.assertIs(judge_shares([ONE], drawing_of_text(1, "1 : 0")), True)
        self.assertIs(judge_shares([ZERO], drawing_of_text(1, "1 :")), True)
        self.assertIs(judge_shares([ZERO] * 12, drawing_of_text(12, "1 :")), True)
        self.assertIs(judge_shares([HALF, HALF], drawing_of_text(2, "1/2 : 0", "1/2 : 1")), True)
        halves = pairs_of("1/2 1/2 1/2 1/2")
        self.assertIs(judge_shares(halves, drawing_of_text(4, "1/2 : 0 3", "1/2 : 1 2")), True)
        mixed = drawing_of_text(4, "1/3 : 0 1", "1/6 : 0 2", "1/6 : 1 3", "1/3 : 2 3")
        self.assertIs(judge_shares(halves, mixed), True)

    def test_other_shares(self):
        self.assertIs(judge_shares([ONE], drawing_of_text(1, "1 :")), False)
        self.assertIs(judge_shares([ZERO], drawing_of_text(1, "1 : 0")), False)
        self.assertIs(judge_shares([HALF, HALF], drawing_of_text(2, "1/3 : 0", "2/3 : 1")), False)
        self.assertIs(judge_shares(pairs_of("1/3 2/3"), drawing_of_text(2, "2/3 : 0", "1/3 : 1")), False)
        self.assertIs(judge_shares(pairs_of("1/2 1/2 0"), drawing_of_text(3, "1/2 : 0", "1/2 : 2")), False)

    def test_lots_of_another_size(self):
        for shares in ("1/2 1/2", "1/2 1/2 1/2 1/2", "1/3 2/3", "1 1/3 2/3", "1/3 1/3 1/3"):
            self.assertIs(judge_shares(pairs_of(shares), alone_drawing(pairs_of(shares))), False)
        self.assertIs(judge_shares([HALF, HALF], drawing_of_text(2, "1/2 :", "1/2 : 0 1")), False)
        uneven = drawing_of_text(4, "1/2 : 0", "1/2 : 1 2 3")
        self.assertIs(judge_shares([HALF] * 4, uneven), False)

    def test_another_count_of_houses(self):
        self.assertIs(judge_shares([HALF, HALF], drawing_of_text(3, "1/2 : 0", "1/2 : 1")), False)
        self.assertIs(judge_shares([HALF, HALF, ZERO], drawing_of_text(2, "1/2 : 0", "1/2 : 1")), False)
        self.assertIs(judge_shares([ZERO], drawing_of_text(2, "1 :")), False)
        self.assertIs(judge_shares([ZERO, ZERO], drawing_of_text(1, "1 :")), False)

    def test_anything_as_drawing(self):
        for thing in ODD_THINGS + BAD:
            for shares in ([ONE], [ZERO], [HALF, HALF], [ZERO, ONE]):
                self.assertIs(judge_shares(shares, thing), False)
        for drawing in GOOD[1:8]:
            self.assertIs(judge_shares([ONE], drawing), False)

    def test_nearly_a_drawing(self):
        for thing in [[1, [(ONE, (0,))]], (1, ((ONE, (0,)),)), (1, [[ONE, (0,)]]), (1, [(ONE, [0])]),
                      (True, [(ONE, (0,))]), (1, [(ONE, (False,))]), (1, [((True, 1), (0,))]),
                      (1, [(HALF, (0,)), (HALF, (0,))])]:
            self.assertIs(judge_shares([ONE], thing), False)

    def test_no_shares_is_told_whatever_the_drawing(self):
        for shares in BAD_SHARE + BAD_SUMS + BAD_LENGTHS:
            for drawing in (None, (1, [(ONE, (0,))]), drawing_of_text(2, "1/2 : 0", "1/2 : 1")):
                self.assert_refused(NoShares, judge_shares, shares, drawing)


class Refusals(Case):
    def test_no_shares(self):
        for way in WAYS:
            for shares in BAD_SHARE + BAD_SUMS + BAD_LENGTHS + ODD_THINGS:
                self.assert_refused(NoShares, way, shares)

    def test_both_ends_of_the_told_lengths(self):
        for way in WAYS:
            self.assert_refused(NoShares, way, [])
            self.assert_told(way([ONE]), drawing_of_text(1, "1 : 0"))
            self.assert_told(way([ONE] * 12), drawing_of_text(12, "1 : 0 1 2 3 4 5 6 7 8 9 10 11"))
            self.assert_told(way([ZERO] * 12), drawing_of_text(12, "1 :"))
            self.assert_refused(NoShares, way, [ONE] * 13)
            self.assert_refused(NoShares, way, [ZERO] * 13)

    def test_no_shares_of_alone(self):
        for shares in BAD_SHARE + BAD_LENGTHS + ODD_THINGS:
            self.assert_refused(NoShares, alone_drawing, shares)

    def test_both_ends_of_the_lengths_of_alone(self):
        self.assert_refused(NoShares, alone_drawing, [])
        self.assert_told(alone_drawing([ONE]), drawing_of_text(1, "1 : 0"))
        self.assert_told(alone_drawing([ONE] * 7), drawing_of_text(7, "1 : 0 1 2 3 4 5 6"))
        self.assertEqual(len(alone_drawing([HALF] * 7)[1]), 128)
        self.assert_refused(NoShares, alone_drawing, [ONE] * 8)
        self.assert_refused(NoShares, alone_drawing, [HALF] * 8)
        self.assert_refused(NoShares, alone_drawing, [ONE] * 12)


class OneSidedShares(Case):
    def test_shares_of_nought_and_one_alone(self):
        for way in WAYS + (alone_drawing,):
            self.assert_told(way([ZERO]), drawing_of_text(1, "1 :"))
            self.assert_told(way([ONE]), drawing_of_text(1, "1 : 0"))
            self.assert_told(way([ZERO, ONE, ZERO, ONE]), drawing_of_text(4, "1 : 1 3"))
            self.assert_told(way([ZERO] * 5), drawing_of_text(5, "1 :"))
            self.assert_told(way([ONE] * 5), drawing_of_text(5, "1 : 0 1 2 3 4"))

    def test_beside_others(self):
        for way in WAYS:
            self.assert_told(way(pairs_of("1 1/2 0 1/2")), drawing_of_text(4, "1/2 : 0 1", "1/2 : 0 3"))
            self.assert_told(way(pairs_of("0 1/3 2/3 0")), drawing_of_text(4, "1/3 : 1", "2/3 : 2"))
            self.assert_told(way(pairs_of("1/4 1 3/4")), drawing_of_text(3, "1/4 : 0 1", "3/4 : 1 2"))


class Line(Case):
    def test_worked_out_by_hand(self):
        self.assert_told(line_drawing(pairs_of("1/2 1/2 1/2 1/2")), drawing_of_text(4, "1/2 : 0 2", "1/2 : 1 3"))
        self.assert_told(line_drawing(pairs_of("2/3 2/3 2/3")),
                         drawing_of_text(3, "1/3 : 0 1", "1/3 : 0 2", "1/3 : 1 2"))
        self.assert_told(line_drawing(pairs_of("1/4 1/2 3/4 1/2")),
                         drawing_of_text(4, "1/4 : 0 2", "1/4 : 1 2", "1/4 : 1 3", "1/4 : 2 3"))
        self.assert_told(line_drawing(pairs_of("1/2 1/3 1/6 1")),
                         drawing_of_text(4, "1/2 : 0 3", "1/3 : 1 3", "1/6 : 2 3"))

    def test_the_houses_order_counts(self):
        self.assertNotEqual(line_drawing(pairs_of("1/4 3/4 1/4 3/4")), line_drawing(pairs_of("1/4 1/4 3/4 3/4")))


class Taken(Case):
    def test_worked_out_by_hand(self):
        self.assert_told(taken_drawing(pairs_of("1/2 1/2 1/2 1/2")), drawing_of_text(4, "1/2 : 0 1", "1/2 : 2 3"))
        self.assert_told(taken_drawing(pairs_of("2/3 2/3 2/3")),
                         drawing_of_text(3, "1/3 : 0 1", "1/3 : 0 2", "1/3 : 1 2"))
        self.assert_told(taken_drawing(pairs_of("1/2 1/4 3/4 1/2")),
                         drawing_of_text(4, "1/2 : 0 2", "1/4 : 1 3", "1/4 : 2 3"))
        self.assert_told(taken_drawing(pairs_of("3/4 3/4 1/2")),
                         drawing_of_text(3, "1/2 : 0 1", "1/4 : 0 2", "1/4 : 1 2"))


class Pairs(Case):
    def test_worked_out_by_hand(self):
        self.assert_told(pairs_drawing(pairs_of("1/2 1/2")), drawing_of_text(2, "1/2 : 0", "1/2 : 1"))
        self.assert_told(pairs_drawing(pairs_of("1/4 1/2 1/4")), drawing_of_text(3, "1/4 : 0", "1/2 : 1", "1/4 : 2"))
        self.assert_told(pairs_drawing(pairs_of("2/3 2/3 2/3")),
                         drawing_of_text(3, "1/3 : 0 1", "1/3 : 0 2", "1/3 : 1 2"))
        self.assert_told(pairs_drawing(pairs_of("1/2 1/2 1/2 1/2")),
                         drawing_of_text(4, "1/4 : 0 2", "1/4 : 0 3", "1/4 : 1 2", "1/4 : 1 3"))
        self.assert_told(pairs_drawing(pairs_of("1/4 1/2 3/4 1/2")),
                         drawing_of_text(4, "1/6 : 0 2", "1/12 : 0 3", "1/3 : 1 2", "1/6 : 1 3", "1/4 : 2 3"))


class AgainstThePlainTelling(Case):
    def compare(self, lists):
        for shares in lists:
            numbers = [Fraction(*share) for share in shares]
            for way in WAYS:
                with self.subTest(way=way.__name__, shares=shares):
                    drawing = way(shares)
                    self.assert_told(drawing, PLAIN[way](numbers))
                    self.assertIs(is_drawing(drawing), True)
                    self.assert_told(lot_shares(drawing), shares)
                    self.assert_told(lot_sizes(drawing), [(int(sum(numbers)), ONE)])
                    if way is not pairs_drawing:
                        self.assertLessEqual(len(drawing[1]), len(shares))

    def test_short_lists(self):
        self.compare(short_lists())

    def test_longer_lists(self):
        self.compare(LONGER)

    def test_what_was_told_is_taken_again(self):
        shares = lot_shares(pairs_drawing(LONGER[-1]))
        for way in WAYS:
            self.assert_told(way(shares), way(LONGER[-1]))
        tiny = Fraction(1, 7 ** 300)
        rest = as_pair(Fraction(2, 3) - tiny)
        self.compare([lot_shares((3, [(as_pair(tiny), (0,)), ((1, 3), (1,)), (rest, (2,))]))])


class Alone(Case):
    def test_worked_out_by_hand(self):
        self.assert_told(alone_drawing(pairs_of("1/2 1/3")),
                         drawing_of_text(2, "1/3 :", "1/3 : 0", "1/6 : 0 1", "1/6 : 1"))
        self.assert_told(alone_drawing(pairs_of("1/4")), drawing_of_text(1, "3/4 :", "1/4 : 0"))
        self.assert_told(alone_drawing(pairs_of("1/2 1/2")),
                         drawing_of_text(2, "1/4 :", "1/4 : 0", "1/4 : 0 1", "1/4 : 1"))

    def test_lots_without_chance_are_not_there(self):
        self.assert_told(alone_drawing(pairs_of("1 1/2 0")), drawing_of_text(3, "1/2 : 0", "1/2 : 0 1"))
        self.assert_told(alone_drawing(pairs_of("0 1/3")), drawing_of_text(2, "2/3 :", "1/3 : 1"))

    def test_not_refused_where_the_sum_is_no_whole_number(self):
        for shares in BAD_SUMS:
            self.assert_told(alone_drawing(shares), plain_alone([Fraction(*share) for share in shares]))

    def test_against_the_plain_telling(self):
        for text in ["1/2 1/3 1/4 1/5 1/6 1/7 1/8", "0 1 1/2 0 1 1/2 2/3", "1/3 1/3 1/3 1/3 1/3 1/3", "5/6 1 1/6 0",
                     "1/999999999989 999999999988/999999999989 123456789012/999999999961 1/2 1/3 1/5 1/7"]:
            shares = pairs_of(text)
            drawing = alone_drawing(shares)
            self.assert_told(drawing, plain_alone([Fraction(*share) for share in shares]))
            self.assertIs(is_drawing(drawing), True)
            self.assert_told(lot_shares(drawing), shares)


class AskersOwn(Case):
    def test_nothing_is_changed(self):
        for shares in LONGER[:8] + [[ONE], [ZERO], [ZERO] * 7]:
            for way in WAYS + (alone_drawing,):
                self.assert_askers_own(way, shares)
            for drawing in (line_drawing(shares), alone_drawing(shares), None, [1, [2]], (1, [[]])):
                self.assert_askers_own(judge_shares, shares, drawing)


if __name__ == "__main__":
    unittest.main()
