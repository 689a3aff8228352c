"""What several test files need: things of every kind, exact comparing, and the rule of the asker's own."""

import copy
import unittest
from fractions import Fraction
from itertools import product

HALF = (1, 2)
ONE = (1, 1)
ZERO = (0, 1)


def nested(depth, inner, kind):
    for turn in range(depth):
        inner = kind([inner])
    return inner


# None of these is a fraction, a drawing, a lot or a list of shares.
ODD_THINGS = [
    None, True, False, 0, 1, -1, 12, 10 ** 59, -(10 ** 59), "", "1/2", "houses 1\n1 : 0", "x" * 6000,
    (), [], (1,), [1], [1, 2], (None, None), (True, True), (False, True), (True, 1), (1, True), (0, True), (1, False),
    (1, 2, 3), ("1", "2"), ("ab",), "ab", ((1, 2),), [(1, 2), 3], ((1, 2), (1, 2)), [[1, 2], [1, 2]],
    (1, 0), (0, 0), (0, 2), (2, 4), (-2, 4), (1, -2), (-1, -2), (10 ** 59, 10 ** 58), (1, None), (None, 1), (1, []),
    ([], 1), ([1], [2]), ((), ()), [[]], [()], [None], [True], [False], ["1"], [1] * 1000, (1,) * 1000,
    nested(20, 1, list), nested(20, 1, tuple), nested(19, (1, 2), list),
]


def as_pair(number):
    number = Fraction(number)
    return (number.numerator, number.denominator)


def pairs_of(text):
    """The list of fractions that a text like '1/2 0 1' writes."""
    return [as_pair(part) for part in text.split()]


def numbers_of(some):
    return [Fraction(*part) for part in some]


def bad_lists(good):
    """Things that miss being a list of as many fractions as a list of at least one, most of them in one thing."""
    bad = [tuple(good), good[:-1], good + [ZERO], good + [ONE], good + good, [good], (good,), tuple(good[:-1])]
    for thing in ODD_THINGS:
        bad.append(good[:-1] + [thing])
        bad.append([thing] + good[1:])
    bad.append(good[:-1] + [list(good[-1])])
    bad.append(good[:-1] + [(good[-1][0] * 2, good[-1][1] * 2)])
    bad.append(good[:-1] + [(-good[-1][0], -good[-1][1])])
    return bad + ODD_THINGS


def drawing_of_text(many, *rows):
    """A drawing of rows like '1/2 : 0 2'."""
    made = []
    for row in rows:
        chance, colon, houses = row.partition(":")
        made.append((as_pair(chance.strip()), tuple(int(house) for house in houses.split())))
    return (many, made)


def spoil(thing):
    """Change each list within a thing, deepest first."""
    if isinstance(thing, (list, tuple)):
        for part in list(thing):
            spoil(part)
    if isinstance(thing, list):
        thing.reverse()
        thing.append("spoilt")
        thing[0] = "spoilt"


class Case(unittest.TestCase):
    def assert_told(self, told, wanted):
        """Alike also in kind: True is not 1, a list no tuple."""
        self.assertEqual(repr(told), repr(wanted))

    def assert_refused(self, kind, asked, *args):
        before = repr(args)
        with self.assertRaises(kind) as caught:
            asked(*args)
        self.assertIs(type(caught.exception), kind)
        self.assertEqual(repr(args), before)

    def assert_refusals(self, asked, good, faults):
        """Faults are tuples (class, place, things) in the document's order: things for that place of the good ones.

        Each thing by itself is refused with its class; where several are due at once, the first one's class is told."""
        asked(*good)
        for kind, place, things in faults:
            for thing in things:
                self.assert_refused(kind, asked, *good[:place], thing, *good[place + 1:])
        choices = []
        for place, thing in enumerate(good):
            bad = [(rank, part) for rank, fault in enumerate(faults) if fault[1] == place for part in fault[2][:3]]
            choices.append([(len(faults), thing)] + bad)
        for chosen in product(*choices):
            first = min(rank for rank, thing in chosen)
            if first < len(faults):
                self.assert_refused(faults[first][0], asked, *[thing for rank, thing in chosen])

    def assert_askers_own(self, asked, *args):
        """Point 2: nothing handed in is changed, and nothing told hangs on what is changed later."""
        before = repr(args)
        first = asked(*args)
        wanted = repr(first)
        self.assertEqual(repr(args), before)
        self.assertEqual(repr(asked(*args)), wanted)
        spoil(first)
        self.assertEqual(repr(args), before)
        self.assertEqual(repr(asked(*args)), wanted)
        changed = copy.deepcopy(args)
        kept = asked(*changed)
        spoil(changed)
        self.assertEqual(repr(kept), wanted)
        self.assertEqual(repr(asked(*args)), wanted)
