"""Points 2 to 4 over the whole program, and the interface: names, arguments, and nothing kept that an asker changes."""

import copy
import importlib
import inspect
import unittest

from sharesample import desk, drawings, errors, fracs, guesses, layers, making, moved, right, rows, spreads, texts
from tests.helper import HALF, ONE, Case, drawing_of_text, pairs_of, spoil
from tests.test_drawings import SOLE, THREE
from tests.test_layers import EITHER, GROUPS, SOME
from tests.test_moved import GUESS
from tests.test_rows import ORDERED, ORDERED_GUESS, ORDERED_WORTHS
from tests.test_spreads import TURNED, TWOS, TWOS_RIGHT, TWOS_WORTHS

SHARES = pairs_of("2/3 2/3 2/3")
LINE = drawing_of_text(3, "1/3 : 0 1", "1/3 : 0 2", "1/3 : 1 2")
SIZES = pairs_of("1/2 1/3 1/6")

INTERFACE = {
    "fracs": {
        "fraction_of": "top bottom", "frac_sum": "one other", "frac_less": "one other", "frac_times": "one other",
        "frac_by": "one other", "frac_below": "one other", "is_fraction": "thing",
    },
    "drawings": {"is_drawing": "thing", "lot_shares": "drawing", "pair_shares": "drawing", "lot_sizes": "drawing"},
    "making": {
        "judge_shares": "shares drawing", "line_drawing": "shares", "taken_drawing": "shares",
        "pairs_drawing": "shares", "alone_drawing": "shares",
    },
    "guesses": {
        "guess_mean": "drawing weights worths", "whole_of": "worths", "right_weights": "drawing",
        "wrong_worths": "drawing weights",
    },
    "spreads": {
        "guess_spread": "drawing weights worths", "pairs_spread": "drawing weights worths",
        "gaps_spread": "drawing worths", "spread_guess": "drawing weights lot worths",
        "gaps_guess": "drawing lot worths", "blind_worths": "drawing",
    },
    "rows": {
        "is_row_drawing": "thing", "forgotten_drawing": "drawing", "row_mean": "drawing guess worths",
        "row_spread": "drawing guess worths", "forgotten_guess": "drawing guess", "lots_mean": "drawing guess worths",
        "lots_spread": "drawing guess worths", "turns_drawing": "sizes many", "turns_guess": "sizes many",
    },
    "moved": {
        "moved_mean": "drawing guess worths", "moved_spread": "drawing guess worths", "nought_guess": "drawing worths",
    },
    "layers": {"layered": "drawings", "within": "drawing inner"},
    "right": {"put_right": "weights lot helps total", "moved_by": "weights lot others"},
    "texts": {"shown_drawing": "drawing", "read_drawing": "text", "shown_list": "some", "read_list": "text"},
}

LOT_GUESS = [pairs_of("1 2"), pairs_of("3 4"), pairs_of("5 6")]

# Every function of the interface, with things that it takes.
ASKED = [
    (fracs.fraction_of, (6, -4)), (fracs.frac_sum, (HALF, ONE)), (fracs.frac_less, (HALF, ONE)),
    (fracs.frac_times, (HALF, ONE)), (fracs.frac_by, (HALF, ONE)), (fracs.frac_below, (HALF, ONE)),
    (fracs.is_fraction, (HALF,)), (fracs.is_fraction, ([HALF],)),
    (drawings.is_drawing, (THREE,)), (drawings.is_drawing, ([THREE],)), (drawings.lot_shares, (THREE,)),
    (drawings.pair_shares, (THREE,)), (drawings.lot_sizes, (THREE,)),
    (making.judge_shares, (SHARES, LINE)), (making.judge_shares, (SHARES, [LINE])), (making.line_drawing, (SHARES,)),
    (making.taken_drawing, (SHARES,)), (making.pairs_drawing, (SHARES,)), (making.alone_drawing, (SHARES,)),
    (guesses.guess_mean, (TWOS, TWOS_RIGHT, TWOS_WORTHS)), (guesses.whole_of, (TWOS_WORTHS,)),
    (guesses.right_weights, (TWOS,)), (guesses.wrong_worths, (TWOS, TWOS_RIGHT)),
    (guesses.wrong_worths, (TWOS, TWOS_WORTHS)),
    (spreads.guess_spread, (TWOS, TWOS_RIGHT, TWOS_WORTHS)), (spreads.pairs_spread, (TWOS, TWOS_RIGHT, TWOS_WORTHS)),
    (spreads.gaps_spread, (TWOS, TWOS_WORTHS)), (spreads.spread_guess, (TWOS, TWOS_RIGHT, (0, 1), TWOS_WORTHS)),
    (spreads.gaps_guess, (TWOS, (0, 1), TWOS_WORTHS)), (spreads.blind_worths, (TURNED,)),
    (spreads.blind_worths, (TWOS,)),
    (rows.is_row_drawing, (ORDERED,)), (rows.is_row_drawing, ([ORDERED],)), (rows.forgotten_drawing, (ORDERED,)),
    (rows.row_mean, (ORDERED, ORDERED_GUESS, ORDERED_WORTHS)),
    (rows.row_spread, (ORDERED, ORDERED_GUESS, ORDERED_WORTHS)), (rows.forgotten_guess, (ORDERED, ORDERED_GUESS)),
    (rows.lots_mean, (LINE, LOT_GUESS, TWOS_WORTHS)), (rows.lots_spread, (LINE, LOT_GUESS, TWOS_WORTHS)),
    (rows.turns_drawing, (SIZES, 1)), (rows.turns_drawing, (SIZES, 2)), (rows.turns_guess, (SIZES, 1)),
    (rows.turns_guess, (SIZES, 2)),
    (moved.moved_mean, (THREE, GUESS, TWOS_WORTHS)), (moved.moved_spread, (THREE, GUESS, TWOS_WORTHS)),
    (moved.nought_guess, (THREE, TWOS_WORTHS)),
    (layers.layered, ([SOME, EITHER, THREE],)), (layers.layered, ([THREE],)), (layers.within, (GROUPS, [SOME, EITHER])),
    (layers.within, (SOLE, [THREE])),
    (right.put_right, (pairs_of("2 3 4"), (0, 1), pairs_of("1 5 2"), (20, 1))),
    (right.put_right, (pairs_of("2 3 4"), (0, 2), pairs_of("1 5 2"), (10, 1))),
    (right.moved_by, (pairs_of("2 3 4"), (0, 1), pairs_of("1 5 2"))),
    (texts.shown_drawing, (THREE,)), (texts.read_drawing, ("houses 2\n1/2 : 0\n1/2 : 1",)),
    (texts.shown_list, (TWOS_WORTHS,)), (texts.read_list, ("1/2 -3 0",)),
]

# These tell of any two fractions; what comes of anything else isn't promised.
UNCHECKED = (fracs.fraction_of, fracs.frac_sum, fracs.frac_less, fracs.frac_times, fracs.frac_by, fracs.frac_below)
TELLING = (fracs.is_fraction, drawings.is_drawing, rows.is_row_drawing)


def with_truths(thing):
    """The thing, once for each 0 or 1 within it, with False or True in its place."""
    if thing in (0, 1) and isinstance(thing, int):
        yield bool(thing)
    if isinstance(thing, (list, tuple)):
        for place, part in enumerate(thing):
            for other in with_truths(part):
                yield type(thing)([*thing[:place], other, *thing[place + 1:]])


class Interface(Case):
    def test_names_and_arguments(self):
        for name, functions in INTERFACE.items():
            module = importlib.import_module("sharesample." + name)
            for function, arguments in functions.items():
                told = inspect.signature(getattr(module, function))
                self.assertEqual(list(told.parameters), arguments.split(), function)
                self.assertTrue(all(part.default is part.empty for part in told.parameters.values()), function)

    def test_the_desk(self):
        self.assertEqual(list(inspect.signature(desk.Desk).parameters), [])
        self.assertEqual(list(inspect.signature(desk.Desk().tell).parameters), ["line"])
        self.assertEqual(desk.Desk().tell(line="whole"), "1")

    def test_every_function_is_asked_here(self):
        asked = {function.__name__ for function, args in ASKED}
        self.assertEqual(asked, {name for functions in INTERFACE.values() for name in functions})


class AskersOwn(Case):
    def test_each_by_itself(self):
        for function, args in ASKED:
            self.assert_askers_own(function, *args)

    def test_what_is_told_changes_no_later_answer_of_any(self):
        before = repr([args for function, args in ASKED])
        told = [function(*args) for function, args in ASKED]
        wanted = repr(told)
        spoil(told)
        again = [function(*args) for function, args in reversed(ASKED)]
        self.assertEqual(repr(again[::-1]), wanted)
        spoil(again)
        self.assertEqual(repr([function(*args) for function, args in ASKED]), wanted)
        self.assertEqual(repr([args for function, args in ASKED]), before)

    def test_what_was_handed_in_may_be_changed_behind_the_call(self):
        handed = [copy.deepcopy(args) for function, args in ASKED]
        told = [function(*args) for (function, kept), args in zip(ASKED, handed)]
        wanted = repr(told)
        spoil(handed)
        self.assertEqual(repr(told), wanted)
        self.assertEqual(repr([function(*args) for function, args in ASKED]), wanted)

    def test_two_told_at_once_share_nothing(self):
        for function, args in ASKED:
            one = function(*args)
            other = function(*args)
            wanted = repr(other)
            spoil(one)
            self.assertEqual(repr(other), wanted)


class Truths(Case):
    def test_true_and_false_are_no_numbers(self):
        found = 0
        for function, args in ASKED:
            if function in UNCHECKED:
                continue
            # The total of put_right is a fraction by its kind: no refusal is told for it.
            many = 3 if function == right.put_right else len(args)
            for place in range(many):
                for thing in with_truths(args[place]):
                    self.assert_not_taken(function, args[:place] + (thing,) + args[place + 1:])
                    found += 1
        self.assertGreater(found, 400)

    def assert_not_taken(self, function, args):
        if function in TELLING:
            self.assertIs(function(*args), False)
        elif function == making.judge_shares and repr(args[0]) == repr(SHARES):
            self.assertIs(function(*args), False)
        else:
            with self.assertRaises(errors.ShareError) as caught:
                function(*args)
            self.assertEqual(type(caught.exception).__bases__, (errors.ShareError,))


if __name__ == "__main__":
    unittest.main()
