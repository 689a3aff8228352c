"""Points 21 and 22: layers, drawings within drawings, by hand and against a plain telling of the document's words."""

import unittest
from fractions import Fraction
from itertools import product
from math import prod

from sharesample.drawings import is_drawing, lot_shares
from sharesample.errors import NoDrawing, NoGroups, TooMany
from sharesample.guesses import guess_mean, right_weights, whole_of
from sharesample.layers import layered, within
from sharesample.making import alone_drawing, line_drawing, pairs_drawing, taken_drawing
from sharesample.spreads import guess_spread
from tests.helper import HALF, ODD_THINGS, ONE, Case, as_pair, drawing_of_text, pairs_of
from tests.test_drawings import NOBODY, SOLE, THREE, all_lots
from tests.test_guesses import BAD_DRAWINGS, MISSED, some_list
from tests.test_making import add, written

SOME = drawing_of_text(1, "2/3 :", "1/3 : 0")
EITHER = drawing_of_text(2, "1/2 : 0", "1/2 : 1")
# The lot of none among its lots, and a group that comes in more lots than one.
GROUPS = drawing_of_text(2, "1/4 :", "1/4 : 0", "1/2 : 0 1")
LONG = 999999999989
LONG_SOME = (2, [((1, LONG), (0,)), ((LONG - 1, LONG), (0, 1))])


def some_lots(many, count):
    """A drawing of many houses with just so many lots."""
    return (many, [((1, count), lot) for lot in all_lots(many)[:count]])


def plain_within(drawing, inner):
    starts = [sum(part[0] for part in inner[:place]) for place in range(len(inner))]
    chances = {}
    for chance, groups in drawing[1]:
        for choice in product(*[inner[group][1] for group in groups]):
            all_chance = Fraction(*chance)
            lot = ()
            for group, row in zip(groups, choice):
                all_chance *= Fraction(*row[0])
                lot += tuple(starts[group] + house for house in row[1])
            add(chances, lot, all_chance)
    return written(sum(part[0] for part in inner), chances)


def plain_layered(drawings):
    return plain_within((len(drawings), [(ONE, tuple(range(len(drawings))))]), drawings)


def parted(some, drawings):
    """A list of all houses, as a list of each drawing's own."""
    told = []
    for drawing in drawings:
        told.append(some[:drawing[0]])
        some = some[drawing[0]:]
    return told


def plain_choices(drawing, inner):
    return sum(prod(len(inner[group][1]) for group in groups) for chance, groups in drawing[1])


def total(some):
    return as_pair(sum((Fraction(*part) for part in some), Fraction(0)))


LAYERS = [
    [SOLE], [NOBODY], [SOME], [THREE], [MISSED], [SOLE, SOLE], [NOBODY, SOLE], [SOLE, NOBODY], [SOME, SOME],
    [SOME, EITHER], [EITHER, SOME], [THREE, EITHER], [GROUPS, THREE], [SOME, SOME, SOME], [SOME, NOBODY, EITHER],
    [NOBODY, NOBODY, NOBODY, NOBODY], [SOLE, SOLE, SOLE, SOLE], [SOME, SOME, SOME, SOME], [THREE, THREE, THREE, THREE],
    [LONG_SOME, LONG_SOME, SOME], [EITHER, MISSED, THREE, GROUPS],
    [line_drawing(pairs_of("1/2 1/3 1/6 2/5 3/5")), SOME],
    [pairs_drawing(pairs_of("1/2 1/3 1/6 2/5 3/5")), taken_drawing(pairs_of("2/3 2/3 2/3"))],
    [alone_drawing(pairs_of("1/2 1/3 1/4")), alone_drawing(pairs_of("1 1/5 0"))],
]

GROUPED = [
    (SOLE, [SOLE]), (SOLE, [THREE]), (SOLE, [NOBODY]), (NOBODY, [SOLE]), (NOBODY, [THREE]), (SOME, [SOME]),
    (SOME, [THREE]), (SOME, [NOBODY]), (EITHER, [SOLE, SOLE]), (EITHER, [SOME, SOME]), (EITHER, [THREE, EITHER]),
    (EITHER, [NOBODY, NOBODY]), (GROUPS, [SOME, EITHER]), (GROUPS, [EITHER, SOME]), (GROUPS, [SOME, SOME]),
    (GROUPS, [NOBODY, THREE]), (THREE, [SOME, EITHER, THREE]), (THREE, [SOLE, SOLE, SOLE]), (THREE, [NOBODY] * 3),
    (THREE, [SOME] * 3), (MISSED, [SOME, THREE, SOME, EITHER]), (MISSED, [SOLE, NOBODY, EITHER, THREE]),
    (LONG_SOME, [LONG_SOME, LONG_SOME]), (LONG_SOME, [SOME, LONG_SOME]), (THREE, [GROUPS, SOME, GROUPS]),
    (line_drawing(pairs_of("1/2 1/3 1/6 2/5 3/5")), [SOME, EITHER, SOME, EITHER, THREE]),
    (drawing_of_text(12, "1/2 : 0 11", "1/2 : 3 4 5"), [SOME] * 12),
    (drawing_of_text(12, "1/2 :", "1/2 : 0 1 2 3 4 5 6 7 8 9 10 11"), [SOLE] * 12),
]

# With the lot of none one choice, with either group its own, with both the product.
TWO = drawing_of_text(2, "1/4 :", "1/4 : 0", "1/4 : 0 1", "1/4 : 1")
FIRST_OR_BOTH = drawing_of_text(2, "1/2 : 0", "1/2 : 0 1")
AT_500 = [
    (TWO, [some_lots(5, 19), some_lots(5, 24)]), (TWO, [some_lots(2, 4), some_lots(7, 99)]),
    (SOME, [some_lots(9, 499)]), (SOLE, [some_lots(9, 500)]), (EITHER, [some_lots(3, 8), some_lots(9, 492)]),
    (FIRST_OR_BOTH, [some_lots(7, 100), some_lots(2, 4)]),
]
AT_501 = [
    (TWO, [some_lots(2, 2), some_lots(8, 166)]), (TWO, [some_lots(8, 166), some_lots(1, 2)]),
    (SOME, [some_lots(9, 500)]), (SOLE, [some_lots(9, 501)]), (EITHER, [some_lots(3, 8), some_lots(9, 493)]),
    (FIRST_OR_BOTH, [some_lots(8, 167), some_lots(1, 2)]),
]


class Layered(Case):
    def test_one_drawing_is_told_as_it_is(self):
        for drawing in (SOLE, NOBODY, SOME, THREE, MISSED, LONG_SOME, drawing_of_text(12, "1/3 :", "2/3 : 0 11")):
            self.assert_told(layered([drawing]), drawing)

    def test_two_worked_out_by_hand(self):
        self.assert_told(layered([SOME, EITHER]),
                         drawing_of_text(3, "1/6 : 0 1", "1/6 : 0 2", "1/3 : 1", "1/3 : 2"))

    def test_the_houses_of_each_stand_behind_those_of_the_ones_ahead(self):
        self.assert_told(layered([EITHER, SOME]),
                         drawing_of_text(3, "1/3 : 0", "1/6 : 0 2", "1/3 : 1", "1/6 : 1 2"))
        last = drawing_of_text(3, "1 : 2")
        self.assert_told(layered([last, last, last]), drawing_of_text(9, "1 : 2 5 8"))
        self.assert_told(layered([NOBODY, SOLE, NOBODY, EITHER]), drawing_of_text(5, "1/2 : 1 3", "1/2 : 1 4"))

    def test_three_worked_out_by_hand(self):
        self.assert_told(layered([SOME, SOLE, drawing_of_text(2, "1/4 :", "3/4 : 0 1")]),
                         drawing_of_text(4, "1/12 : 0 1", "1/4 : 0 1 2 3", "1/6 : 1", "1/2 : 1 2 3"))

    def test_four_worked_out_by_hand(self):
        half = drawing_of_text(1, "1/2 :", "1/2 : 0")
        self.assert_told(layered([half, SOLE, NOBODY, SOME]),
                         drawing_of_text(4, "1/3 : 0 1", "1/6 : 0 1 3", "1/3 : 1", "1/6 : 1 3"))

    def test_lots_of_none(self):
        self.assert_told(layered([NOBODY] * 4), drawing_of_text(4, "1 :"))
        self.assert_told(layered([NOBODY, SOME]), drawing_of_text(2, "2/3 :", "1/3 : 1"))
        self.assert_told(layered([SOME, SOME]), drawing_of_text(2, "4/9 :", "2/9 : 0", "1/9 : 0 1", "2/9 : 1"))

    def test_drawings_of_one_house_are_houses_asked_by_themselves(self):
        for text in ("1/2", "1/2 1/3", "1 1/3 0", "1/5 2/5 3/5 4/5", "0 0 1 1"):
            shares = pairs_of(text)
            self.assert_told(layered([alone_drawing([share]) for share in shares]), alone_drawing(shares))

    def test_twelve_houses_in_all(self):
        everyone = drawing_of_text(3, "1 : 0 1 2")
        self.assert_told(layered([everyone] * 4), (12, [(ONE, tuple(range(12)))]))
        self.assert_told(layered([drawing_of_text(11, "1 : 10"), SOME]), drawing_of_text(12, "2/3 : 10", "1/3 : 10 11"))
        told = layered([THREE] * 4)
        self.assertEqual((told[0], len(told[1])), (12, 4 ** 4))
        self.assert_told(lot_shares(told), lot_shares(THREE) * 4)

    def test_against_the_plain_telling(self):
        for drawings in LAYERS:
            told = layered(drawings)
            self.assertIs(is_drawing(told), True)
            self.assert_told(told, plain_layered(drawings))
            self.assert_told(lot_shares(told), [share for drawing in drawings for share in lot_shares(drawing)])

    def test_means_and_spreads_are_summed(self):
        for drawings in LAYERS:
            told = layered(drawings)
            for turn in range(3):
                weights = some_list(told[0], turn)
                worths = some_list(told[0], turn + 5)
                parts = list(zip(drawings, parted(weights, drawings), parted(worths, drawings)))
                self.assert_told(guess_mean(told, weights, worths), total([guess_mean(*part) for part in parts]))
                self.assert_told(guess_spread(told, weights, worths), total([guess_spread(*part) for part in parts]))

    def test_what_was_told_is_taken_again(self):
        long = (1, [((1, 7 ** 400), ()), ((7 ** 400 - 1, 7 ** 400), (0,))])
        twice = layered([long, long])
        self.assert_told(layered([twice, long]), layered([long, long, long]))
        self.assert_told(layered([long, twice]), plain_layered([long, long, long]))

    def test_just_500_choices(self):
        for drawings in ([some_lots(5, 20), some_lots(5, 25)], [some_lots(9, 500)], [SOLE, some_lots(9, 500), NOBODY],
                         [some_lots(3, 5), some_lots(3, 5), some_lots(3, 5), some_lots(3, 4)]):
            told = layered(drawings)
            self.assertEqual(len(told[1]), 500)
            self.assert_told(told, plain_layered(drawings))

    def test_refusals(self):
        good = [THREE, SOLE]
        no_drawings = [thing for thing in ODD_THINGS if thing != []] + [(THREE, SOLE), THREE, (THREE,), [good], (good,)]
        no_drawings += [[THREE, thing] for thing in BAD_DRAWINGS] + [[thing] for thing in BAD_DRAWINGS]
        no_drawings += [[THREE, SOLE, SOLE, None], [None] * 1000]
        too_many = [
            [], [SOLE] * 5, [SOLE] * 13, [SOLE] * 1000,
            [drawing_of_text(12, "1 :"), NOBODY], [drawing_of_text(6, "1 : 0"), drawing_of_text(7, "1 : 0")],
            [THREE, THREE, THREE, drawing_of_text(4, "1 :")], [drawing_of_text(12, "1 :")] * 4,
            [some_lots(9, 501)], [some_lots(8, 167), some_lots(2, 3)], [some_lots(2, 3), some_lots(8, 167), SOLE],
            [some_lots(3, 5)] * 4, [alone_drawing([HALF] * 7), alone_drawing([HALF] * 2)], [some_lots(12, 1000)],
        ]
        self.assert_refusals(layered, (good,), [(NoDrawing, 0, no_drawings), (TooMany, 0, too_many)])

    def test_no_drawing_ahead_of_too_many(self):
        for bad in BAD_DRAWINGS[:40]:
            for drawings in ([SOLE] * 4 + [bad], [bad] + [SOLE] * 4, [drawing_of_text(12, "1 :"), SOLE, bad],
                             [some_lots(9, 501), bad], [SOLE] * 999 + [bad]):
                self.assert_refused(NoDrawing, layered, drawings)


class Within(Case):
    def test_worked_out_by_hand(self):
        # The group 0 has the house 0, the group 1 the houses 1 and 2.
        half = drawing_of_text(1, "1/2 :", "1/2 : 0")
        third = drawing_of_text(2, "1/3 : 0", "2/3 : 1")
        self.assert_told(within(GROUPS, [half, third]), drawing_of_text(
            3, "3/8 :", "1/8 : 0", "1/12 : 0 1", "1/6 : 0 2", "1/12 : 1", "1/6 : 2"))

    def test_the_groups_all_drawn_are_layers(self):
        for drawings in LAYERS:
            everyone = (len(drawings), [(ONE, tuple(range(len(drawings))))])
            self.assert_told(within(everyone, drawings), layered(drawings))

    def test_groups_of_one_house_that_is_asked(self):
        for drawing in (SOLE, NOBODY, SOME, THREE, MISSED, GROUPS, LONG_SOME):
            self.assert_told(within(drawing, [SOLE] * drawing[0]), drawing)

    def test_one_group_that_is_always_drawn(self):
        for drawing in (SOLE, NOBODY, SOME, THREE, MISSED, GROUPS, LONG_SOME):
            self.assert_told(within(SOLE, [drawing]), drawing)

    def test_a_group_that_is_never_drawn(self):
        never = drawing_of_text(3, "1/2 : 0", "1/2 : 2")
        self.assert_told(within(never, [EITHER, THREE, SOLE]), drawing_of_text(6, "1/4 : 0", "1/4 : 1", "1/2 : 5"))
        self.assert_told(within(NOBODY, [THREE]), drawing_of_text(3, "1 :"))

    def test_like_lots_once(self):
        # The lot of none comes from no group, from either one alone and from both.
        self.assert_told(within(TWO, [SOME, SOME]), drawing_of_text(2, "25/36 :", "5/36 : 0", "1/36 : 0 1", "5/36 : 1"))
        self.assert_told(within(TWO, [NOBODY, NOBODY]), drawing_of_text(2, "1 :"))
        self.assert_told(within(TWO, [NOBODY, SOLE]), drawing_of_text(2, "1/2 :", "1/2 : 1"))
        self.assert_told(within(drawing_of_text(3, "1/3 : 0 1", "1/3 : 0 2", "1/3 : 1 2"), [SOLE, NOBODY, SOLE]),
                         drawing_of_text(3, "1/3 : 0", "1/3 : 0 2", "1/3 : 2"))

    def test_against_the_plain_telling(self):
        for drawing, inner in GROUPED:
            told = within(drawing, inner)
            self.assertIs(is_drawing(told), True)
            self.assert_told(told, plain_within(drawing, inner))

    def test_a_share_is_the_product(self):
        for drawing, inner in GROUPED:
            wanted = [as_pair(Fraction(*share) * Fraction(*own)) for share, part in zip(lot_shares(drawing), inner)
                      for own in lot_shares(part)]
            self.assert_told(lot_shares(within(drawing, inner)), wanted)

    def test_the_spread_is_that_of_the_groups_and_of_those_within(self):
        found = 0
        for drawing, inner in GROUPED:
            told = within(drawing, inner)
            weights = right_weights(told)
            if None in weights:
                continue
            for turn in range(3):
                worths = some_list(told[0], turn)
                own = parted(worths, inner)
                parts = [guess_spread(drawing, right_weights(drawing), [whole_of(part) for part in own])]
                for share, part, some in zip(lot_shares(drawing), inner, own):
                    spread = guess_spread(part, right_weights(part), some)
                    parts.append(as_pair(Fraction(*spread) / Fraction(*share)))
                self.assert_told(guess_spread(told, weights, worths), total(parts))
                self.assert_told(guess_mean(told, weights, worths), whole_of(worths))
            found += 1
        self.assertGreater(found, 8)

    def test_just_500_choices(self):
        for drawing, inner in AT_500:
            self.assertEqual(plain_choices(drawing, inner), 500)
            self.assert_told(within(drawing, inner), plain_within(drawing, inner))
        self.assert_told(within(some_lots(9, 500), [SOLE] * 9), some_lots(9, 500))

    def test_501_choices(self):
        for drawing, inner in AT_501:
            self.assertEqual(plain_choices(drawing, inner), 501)
            self.assertLessEqual(sum(part[0] for part in inner), 12)
            self.assert_refused(TooMany, within, drawing, inner)
        self.assert_refused(TooMany, within, some_lots(9, 501), [SOLE] * 9)

    def test_choices_of_a_group_that_is_never_drawn_do_not_count(self):
        never = drawing_of_text(2, "1 : 0")
        self.assert_told(within(never, [EITHER, some_lots(10, 1000)]), drawing_of_text(12, "1/2 : 0", "1/2 : 1"))
        self.assert_told(within(NOBODY, [some_lots(12, 1000)]), drawing_of_text(12, "1 :"))

    def test_just_twelve_houses(self):
        self.assertEqual(within(EITHER, [some_lots(5, 3), some_lots(7, 3)])[0], 12)
        self.assertEqual(within(NOBODY, [drawing_of_text(12, "1 : 11")]), drawing_of_text(12, "1 :"))
        twelve = (12, [(ONE, (0, 3, 11))])
        self.assert_told(within(twelve, [SOLE] * 12), twelve)

    def test_refusals(self):
        good = [SOME, EITHER]
        no_groups = ODD_THINGS + [
            tuple(good), [], [SOME], [SOME, EITHER, SOME], [SOME] * 1000, [good], (good,), SOME, GROUPS, (SOME, None),
            [None], [None, None, None], [THREE], [some_lots(9, 501)], [drawing_of_text(12, "1 :")] * 3,
        ]
        no_groups = [thing for thing in no_groups if not isinstance(thing, list) or len(thing) != 2]
        no_drawing = [[SOME, thing] for thing in BAD_DRAWINGS] + [[thing, EITHER] for thing in BAD_DRAWINGS]
        no_drawing += [[1, 2], [[1, 2], [1, 2]], [(1, 2), 3]]
        no_drawing += [[drawing_of_text(12, "1 :"), None], [None, some_lots(9, 501)]]
        too_many = [
            [drawing_of_text(12, "1 :"), NOBODY], [SOLE, drawing_of_text(12, "1 :")],
            [drawing_of_text(6, "1 : 0"), drawing_of_text(7, "1 : 0")], [some_lots(9, 250), SOLE],
            [some_lots(9, 501), SOLE], [some_lots(6, 20), some_lots(6, 24)],
            [some_lots(9, 501), drawing_of_text(12, "1 :")],
        ]
        self.assert_refusals(within, (GROUPS, good), [
            (NoDrawing, 0, BAD_DRAWINGS), (NoGroups, 1, no_groups), (NoDrawing, 1, no_drawing), (TooMany, 1, too_many)])

    def test_thirteen_houses(self):
        self.assert_refused(TooMany, within, SOLE, [some_lots(12, 1000)])
        self.assert_refused(TooMany, within, EITHER, [drawing_of_text(6, "1 :"), drawing_of_text(7, "1 :")])
        # Houses of a group that is never drawn are there, too.
        self.assert_refused(TooMany, within, drawing_of_text(2, "1 : 0"), [SOLE, drawing_of_text(12, "1 :")])
        self.assert_refused(TooMany, within, drawing_of_text(12, "1 : 0"), [SOLE] * 11 + [EITHER])


class AskersOwn(Case):
    def test_nothing_is_changed(self):
        for drawings in LAYERS:
            self.assert_askers_own(layered, drawings)
        for drawing, inner in GROUPED:
            self.assert_askers_own(within, drawing, inner)

    def test_one_layer_is_not_the_list_that_was_handed_in(self):
        drawing = drawing_of_text(2, "1/2 : 0", "1/2 : 1")
        for told in (layered([drawing]), within(SOLE, [drawing]), within(drawing, [SOLE, SOLE])):
            told[1].clear()
            self.assert_told(drawing, EITHER)


if __name__ == "__main__":
    unittest.main()
