"""Moved guesses: guesses of how far the worths are from told ones."""

from sharesample.drawings import check_drawing
from sharesample.errors import NoGuess, NoPair
from sharesample.fracs import are_fractions, frac_less, frac_sum
from sharesample.guesses import check_worths, guess_mean, right_weights, whole_of
from sharesample.spreads import guess_spread


def check_moved(thing, many):
    if not isinstance(thing, tuple) or len(thing) != 2:
        raise NoGuess("no weights and base")
    if not are_fractions(thing[0], many) or not are_fractions(thing[1], many):
        raise NoGuess("no weights and base of all houses")


def beyond_base(drawing, guess, worths):
    check_drawing(drawing)
    check_moved(guess, drawing[0])
    check_worths(worths, drawing[0])
    return [frac_less(worth, base) for worth, base in zip(worths, guess[1])]


def moved_mean(drawing, guess, worths):
    beyond = beyond_base(drawing, guess, worths)
    return frac_sum(whole_of(guess[1]), guess_mean(drawing, guess[0], beyond))


def moved_spread(drawing, guess, worths):
    # The sum of base is the same for each lot, so it adds nothing to the spread.
    beyond = beyond_base(drawing, guess, worths)
    return guess_spread(drawing, guess[0], beyond)


def full_weights(drawing):
    weights = right_weights(drawing)
    if None in weights:
        raise NoPair("a house with the share 0")
    return weights


def nought_guess(drawing, worths):
    weights = full_weights(drawing)
    check_worths(worths, drawing[0])
    return (weights, list(worths))
