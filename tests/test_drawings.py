"""Points 6 and 7: drawings, their shares and sizes."""

import unittest
from fractions import Fraction
from itertools import combinations

from sharesample.drawings import is_drawing, lot_shares, lot_sizes, pair_shares
from sharesample.errors import NoDrawing
from tests.helper import HALF, ODD_THINGS, ONE, ZERO, Case, as_pair, drawing_of_text, nested, pairs_of

SOLE = (1, [(ONE, (0,))])
NOBODY = (1, [(ONE, ())])
THREE = drawing_of_text(3, "1/6 :", "1/3 : 0 2", "1/4 : 1", "1/4 : 1 2")
LONG = 10 ** 12 - 11
TOLD_LONG = 7 ** 400


def all_lots(many):
    return sorted(lot for size in range(many + 1) for lot in combinations(range(many), size))


def even_drawing(many):
    """Every lot there is, with like chances: 4096 of them at twelve houses."""
    lots = all_lots(many)
    return (many, [((1, len(lots)), lot) for lot in lots])


GOOD = [
    SOLE, NOBODY, THREE,
    drawing_of_text(12, "1 :"),
    drawing_of_text(12, "1 : 0 1 2 3 4 5 6 7 8 9 10 11"),
    drawing_of_text(12, "1 : 11"),
    drawing_of_text(2, "1/2 : 0", "1/2 : 1"),
    drawing_of_text(2, "1/4 :", "1/4 : 0", "1/4 : 0 1", "1/4 : 1"),
    drawing_of_text(3, "1/2 : 0 1 2", "1/3 : 0 2", "1/6 : 2"),
    (2, [((1, LONG), (0,)), ((LONG - 1, LONG), (1,))]),
    (2, [((1, TOLD_LONG), (0,)), ((TOLD_LONG - 1, TOLD_LONG), (0, 1))]),
    even_drawing(1), even_drawing(5), even_drawing(9),
]

BAD_WHOLES = [
    [1, [(ONE, (0,))]], (1,), (1, [(ONE, (0,))], 1), (1, [(ONE, (0,))], []), ([(ONE, (0,))],), [(ONE, (0,))],
    ([(ONE, (0,))], 1), (SOLE,), [SOLE], (SOLE, SOLE),
]

BAD_COUNTS = [
    (0, [(ONE, ())]), (-1, [(ONE, ())]), (13, [(ONE, ())]), (13, [(ONE, (12,))]), (10 ** 59, [(ONE, ())]),
    (True, [(ONE, (0,))]), (True, [(ONE, ())]), (False, [(ONE, ())]), (None, [(ONE, ())]), ("1", [(ONE, ())]),
    ((1,), [(ONE, ())]), ([1], [(ONE, ())]), (ONE, [(ONE, ())]),
]

BAD_ROWS = [
    (1, []), (1, ()), (1, ((ONE, (0,)),)), (1, None), (1, True), (1, 1), (1, ""), (1, "x"), (1, [[ONE, (0,)]]),
    (1, [(ONE,)]), (1, [(ONE, (0,), 0)]), (1, [((0,), ONE)]), (1, [None]), (1, [True]), (1, [()]), (1, ["ab"]),
    (1, [(ONE, (0,)), None]), (1, [(HALF, ()), (HALF, (0,)), ()]), (1, [[]]), (1, nested(18, (ONE, (0,)), list)),
]

BAD_CHANCES = [
    (1, [((True, 1), (0,))]), (1, [((1, True), (0,))]), (1, [((True, True), (0,))]), (1, [([1, 1], (0,))]),
    (1, [(1, (0,))]), (1, [(True, (0,))]), (1, [("1", (0,))]), (1, [(None, (0,))]), (1, [((2, 2), (0,))]),
    (1, [((1, 1, 1), (0,))]), (1, [((1,), (0,))]), (1, [((-1, -1), (0,))]), (1, [((1, 0), (0,))]),
    (1, [((2, 4), ()), (HALF, (0,))]), (1, [(HALF, ()), ((2, 4), (0,))]),
    (1, [(ZERO, ()), (ONE, (0,))]), (1, [(ONE, ()), (ZERO, (0,))]), (1, [((0, 2), ()), (ONE, (0,))]),
    (1, [((-1, 2), ()), ((3, 2), (0,))]), (1, [((3, 2), ()), ((-1, 2), (0,))]), (1, [((2, 1), ()), ((-1, 1), (0,))]),
]

BAD_SUMS = [
    (1, [(HALF, (0,))]), (1, [((2, 1), (0,))]), (1, [((3, 2), (0,))]), (1, [(HALF, ()), ((1, 3), (0,))]),
    (1, [(HALF, ()), ((2, 3), (0,))]), (1, [(ONE, ()), (ONE, (0,))]), (1, [((LONG - 1, LONG), (0,))]),
    (1, [((LONG + 1, LONG), (0,))]), (1, [((1, LONG), ()), ((LONG - 2, LONG), (0,))]),
    (1, [((1, LONG + 2), ()), ((LONG - 1, LONG), (0,))]),
    (2, [((1, 3), ()), ((1, 3), (0,)), ((1, 3), (0, 1)), ((1, 3), (1,))]),
]

BAD_LOTS = [
    (2, [(ONE, [0])]), (2, [(ONE, [])]), (2, [(ONE, 0)]), (2, [(ONE, None)]), (2, [(ONE, "0")]), (2, [(ONE, "")]),
    (2, [(ONE, (1, 0))]), (2, [(ONE, (0, 0))]), (2, [(ONE, (1, 1))]), (3, [(ONE, (0, 2, 1))]), (3, [(ONE, (0, 2, 2))]),
    (2, [(ONE, (2,))]), (2, [(ONE, (0, 2))]), (2, [(ONE, (-1,))]), (2, [(ONE, (-1, 0))]), (12, [(ONE, (12,))]),
    (2, [(ONE, (False,))]), (2, [(ONE, (True,))]), (2, [(ONE, (0, True))]), (2, [(ONE, (False, 1))]),
    (2, [(ONE, (None,))]), (2, [(ONE, ("0",))]), (2, [(ONE, ((0,),))]), (2, [(ONE, ((0, 1),))]), (2, [(ONE, ([0],))]),
    (2, [(ONE, (0, None))]), (2, [(HALF, (0,)), (HALF, (0, "1"))]), (2, [(ONE, (10 ** 59,))]),
]

BAD_ORDERS = [
    (2, [(HALF, (0,)), (HALF, (0,))]), (2, [(HALF, ()), (HALF, ())]), (2, [(HALF, (1,)), (HALF, (0,))]),
    (2, [(HALF, (0,)), (HALF, ())]), (2, [(HALF, (0, 1)), (HALF, (0,))]), (2, [(HALF, (1,)), (HALF, (0, 1))]),
    (2, [((1, 3), (0,)), ((1, 3), (1,)), ((1, 3), (0, 1))]), (2, [((1, 3), ()), ((1, 3), (1,)), ((1, 3), (1,))]),
    (12, [(HALF, (10,)), (HALF, (2,))]), (3, [((1, 3), (0,)), ((2, 3), (0,))]),
]

BAD = BAD_WHOLES + BAD_COUNTS + BAD_ROWS + BAD_CHANCES + BAD_SUMS + BAD_LOTS + BAD_ORDERS


class IsDrawing(Case):
    def test_drawings(self):
        for thing in GOOD:
            self.assertIs(is_drawing(thing), True, repr(thing)[:90])

    def test_every_lot_of_twelve_houses(self):
        self.assertIs(is_drawing(even_drawing(12)), True)

    def test_every_count_of_houses(self):
        for many in range(-2, 16):
            self.assertIs(is_drawing((many, [(ONE, ())])), 1 <= many <= 12)

    def test_things_that_miss_in_one_thing(self):
        for thing in BAD:
            self.assertIs(is_drawing(thing), False, repr(thing)[:90])

    def test_things_of_every_kind(self):
        for thing in ODD_THINGS:
            self.assertIs(is_drawing(thing), False)
            self.assertIs(is_drawing((1, thing)), False)
            self.assertIs(is_drawing((1, [thing])), False)
            self.assertIs(is_drawing((1, [(thing, (0,))])), False)
            if not isinstance(thing, int) or isinstance(thing, bool):
                self.assertIs(is_drawing((thing, [(ONE, ())])), False)
                self.assertIs(is_drawing((1, [(ONE, (thing,))])), False)
            if thing != ():
                self.assertIs(is_drawing((1, [(ONE, thing)])), False)

    def test_a_thousand_rows(self):
        rows = even_drawing(12)[1][:1000]
        rows = [((1, 1000), lot) for chance, lot in rows]
        self.assertIs(is_drawing((12, rows)), True)
        self.assertIs(is_drawing((12, [((1, 999), lot) for chance, lot in rows])), False)
        unlike = [((1, 10 ** 12 - 2 * place - 1), row[1]) for place, row in enumerate(rows)]
        self.assertIs(is_drawing((12, unlike)), False)


class SharesAndSizes(Case):
    def test_worked_out_by_hand(self):
        self.assert_told(lot_shares(THREE), pairs_of("1/3 1/2 7/12"))
        self.assert_told(pair_shares(THREE), [pairs_of("1/3 0 1/3"), pairs_of("0 1/2 1/4"), pairs_of("1/3 1/4 7/12")])
        self.assert_told(lot_sizes(THREE), [(0, (1, 6)), (1, (1, 4)), (2, (7, 12))])

    def test_the_lot_of_none(self):
        self.assert_told(lot_shares(NOBODY), [ZERO])
        self.assert_told(pair_shares(NOBODY), [[ZERO]])
        self.assert_told(lot_sizes(NOBODY), [(0, ONE)])
        nobody = (12, [(ONE, ())])
        self.assert_told(lot_shares(nobody), [ZERO] * 12)
        self.assert_told(pair_shares(nobody), [[ZERO] * 12 for house in range(12)])

    def test_one_house_and_all_houses(self):
        self.assert_told(lot_shares(SOLE), [ONE])
        self.assert_told(pair_shares(SOLE), [[ONE]])
        self.assert_told(lot_sizes(SOLE), [(1, ONE)])
        everyone = (12, [(ONE, tuple(range(12)))])
        self.assert_told(lot_shares(everyone), [ONE] * 12)
        self.assert_told(lot_sizes(everyone), [(12, ONE)])

    def test_sizes_rise_and_leave_out_those_that_do_not_come(self):
        drawing = drawing_of_text(4, "1/8 : 0 1 2 3", "1/8 : 0 2 3", "1/4 : 1", "1/4 : 1 2 3", "1/4 : 3")
        self.assert_told(lot_sizes(drawing), [(1, HALF), (3, (3, 8)), (4, (1, 8))])

    def test_summed_lot_by_lot(self):
        for many, rows in GOOD:
            wanted = [[sum(Fraction(*chance) for chance, lot in rows if i in lot and j in lot) for j in range(many)]
                      for i in range(many)]
            self.assert_told(pair_shares((many, rows)), [[as_pair(part) for part in line] for line in wanted])
            self.assert_told(lot_shares((many, rows)), [as_pair(wanted[i][i]) for i in range(many)])
            sizes = sorted({len(lot) for chance, lot in rows})
            chances = [sum(Fraction(*chance) for chance, lot in rows if len(lot) == size) for size in sizes]
            self.assert_told(lot_sizes((many, rows)), list(zip(sizes, map(as_pair, chances))))

    def test_no_drawing(self):
        for asked in (lot_shares, pair_shares, lot_sizes):
            for thing in BAD + ODD_THINGS:
                self.assert_refused(NoDrawing, asked, thing)


class AskersOwn(Case):
    def test_nothing_is_changed(self):
        for asked in (is_drawing, lot_shares, pair_shares, lot_sizes):
            for drawing in GOOD[:9]:
                self.assert_askers_own(asked, drawing)
        for thing in BAD:
            self.assert_askers_own(is_drawing, thing)

    def test_the_lists_of_pair_shares_are_each_for_itself(self):
        for drawing in (THREE, (3, [(ONE, ())])):
            told = pair_shares(drawing)
            told[0][1] = "spoilt"
            self.assert_told(told[1:], pair_shares(drawing)[1:])


if __name__ == "__main__":
    unittest.main()
