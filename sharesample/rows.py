"""Drawings in which the order of the houses counts, and guesses from which the order is forgotten."""

from sharesample.drawings import check_drawing, drawing_of, is_drawn, weighed_lots
from sharesample.errors import NoDrawing, NoGuess, NoShares, TooMany
from sharesample.fracs import are_fractions, frac_by, frac_times, frac_total, fraction_of, is_whole, over_one
from sharesample.guesses import check_worths, mean_of, spread_of

MOST_SIZES = 6


def is_row_drawing(thing):
    return is_drawn(thing)


def check_row_drawing(thing):
    if not is_row_drawing(thing):
        raise NoDrawing("no row drawing")


def check_guess(thing, rows):
    if not isinstance(thing, list) or len(thing) != len(rows):
        raise NoGuess("no list of weights for each row")
    for row, weights in zip(rows, thing):
        if not are_fractions(weights, len(row[1])):
            raise NoGuess("no weights of a row")


def row_guesses(rows, guess, worths):
    # The guess of each row, as whole numbers over one bottom: (bottom, list of tops).
    told = []
    for row, weights in zip(rows, guess):
        told.append(frac_total([frac_times(weight, worths[house]) for house, weight in zip(row[1], weights)]))
    return over_one(told)


def forgotten_drawing(drawing):
    check_row_drawing(drawing)
    weighed = weighed_lots(drawing[1])
    weights = {}
    for weight, row in weighed[1]:
        lot = tuple(sorted(row))
        weights[lot] = weights.get(lot, 0) + weight
    return drawing_of(drawing[0], weights, weighed[0])


def row_mean(drawing, guess, worths):
    check_row_drawing(drawing)
    check_guess(guess, drawing[1])
    check_worths(worths, drawing[0])
    return mean_of(drawing[1], row_guesses(drawing[1], guess, worths))


def row_spread(drawing, guess, worths):
    check_row_drawing(drawing)
    check_guess(guess, drawing[1])
    check_worths(worths, drawing[0])
    return spread_of(drawing[1], row_guesses(drawing[1], guess, worths))


def forgotten_guess(drawing, guess):
    lots = forgotten_drawing(drawing)
    check_guess(guess, drawing[1])
    parts = {}
    for row, weights in zip(drawing[1], guess):
        lot = tuple(sorted(row[1]))
        for house, weight in zip(row[1], weights):
            parts.setdefault((lot, house), []).append(frac_times(row[0], weight))
    told = []
    for chance, lot in lots[1]:
        told.append([frac_by(frac_total(parts[(lot, house)]), chance) for house in lot])
    return told


def lots_mean(drawing, guess, worths):
    # A drawing is a row drawing whose rows are lots; only what is refused differs.
    check_drawing(drawing)
    return row_mean(drawing, guess, worths)


def lots_spread(drawing, guess, worths):
    check_drawing(drawing)
    return row_spread(drawing, guess, worths)


def is_sizes(thing):
    if not isinstance(thing, list) or len(thing) < 1 or len(thing) > MOST_SIZES:
        return False
    if not are_fractions(thing, len(thing)) or min([size[0] for size in thing]) < 1:
        return False
    return frac_total(thing) == (1, 1)


def check_turns(sizes, many):
    if not is_sizes(sizes):
        raise NoShares("no sizes")
    if not is_whole(many) or many < 1 or many > len(sizes):
        raise TooMany("no number of turns")


def turn_rows(houses, many):
    rows = [()]
    for turn in range(many):
        longer = []
        for row in rows:
            longer.extend([row + (house,) for house in range(houses) if house not in row])
        rows = longer
    return rows


def sizes_left(tops, row):
    # Ahead of each turn, the sizes of those not drawn yet.
    left = sum(tops)
    told = []
    for house in row:
        told.append(left)
        left -= tops[house]
    return told


def turns_chance(tops, row):
    top = 1
    bottom = 1
    for house, left in zip(row, sizes_left(tops, row)):
        top *= tops[house]
        bottom *= left
    return fraction_of(top, bottom)


def turns_weights(tops, row):
    # A house counts with left through size in the guess of its own turn, and with 1 in those behind.
    weights = []
    behind = len(row)
    for house, left in zip(row, sizes_left(tops, row)):
        behind -= 1
        weights.append(fraction_of(left + behind * tops[house], len(row) * tops[house]))
    return weights


def turns_drawing(sizes, many):
    check_turns(sizes, many)
    tops = over_one(sizes)[1]
    return (len(sizes), [(turns_chance(tops, row), row) for row in turn_rows(len(sizes), many)])


def turns_guess(sizes, many):
    check_turns(sizes, many)
    tops = over_one(sizes)[1]
    return [turns_weights(tops, row) for row in turn_rows(len(sizes), many)]
