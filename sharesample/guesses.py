"""Guesses by weights: their means, and the weights that are right on the mean."""

from sharesample.drawings import MOST_HOUSES, check_drawing, lot_shares, weighed_lots
from sharesample.errors import NoWeights, NoWorths
from sharesample.fracs import are_fractions, frac_by, frac_times, frac_total, fraction_of, over_one

ZERO = (0, 1)
ONE = (1, 1)


def check_weights(thing, many):
    if not are_fractions(thing, many):
        raise NoWeights("no weights")


def check_worths(thing, many):
    if not are_fractions(thing, many):
        raise NoWorths("no worths")


def lot_guesses(drawing, weights, worths):
    # The guess of each lot, as whole numbers over one bottom: (bottom, list of tops).
    parts = over_one([frac_times(weight, worth) for weight, worth in zip(weights, worths)])
    tops = parts[1]
    return (parts[0], [sum([tops[house] for house in lot]) for chance, lot in drawing[1]])


def mean_of(rows, guesses):
    weighed = weighed_lots(rows)
    total = sum([part[0] * top for part, top in zip(weighed[1], guesses[1])])
    return fraction_of(total, weighed[0] * guesses[0])


def spread_of(rows, guesses):
    # The mean of the squares less the square of the mean: so there is one bottom for all rows, reduced once.
    weighed = weighed_lots(rows)
    total = sum([part[0] * top for part, top in zip(weighed[1], guesses[1])])
    squares = sum([part[0] * top * top for part, top in zip(weighed[1], guesses[1])])
    bottom = weighed[0] * guesses[0]
    return fraction_of(weighed[0] * squares - total * total, bottom * bottom)


def guess_mean(drawing, weights, worths):
    check_drawing(drawing)
    check_weights(weights, drawing[0])
    check_worths(worths, drawing[0])
    return mean_of(drawing[1], lot_guesses(drawing, weights, worths))


def whole_of(worths):
    if not isinstance(worths, list) or len(worths) < 1 or len(worths) > MOST_HOUSES:
        raise NoWorths("no worths")
    check_worths(worths, len(worths))
    return frac_total(worths)


def right_weights(drawing):
    return [frac_by(ONE, share) if share[0] > 0 else None for share in lot_shares(drawing)]


def wrong_worths(drawing, weights):
    shares = lot_shares(drawing)
    check_weights(weights, drawing[0])
    for house, share in enumerate(shares):
        if frac_times(weights[house], share) != ONE:
            return [ONE if other == house else ZERO for other in range(drawing[0])]
    return None
