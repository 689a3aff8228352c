"""Spreads of guesses, two ways, and guesses of the spread."""

from sharesample.drawings import check_drawing, is_lot, pair_shares
from sharesample.errors import NoLot, NoPair, NoSize
from sharesample.fracs import frac_by, frac_less, frac_times, frac_total
from sharesample.guesses import check_weights, check_worths, lot_guesses, spread_of


def check_one_size(drawing):
    if len(set([len(lot) for chance, lot in drawing[1]])) != 1:
        raise NoSize("lots of unlike sizes")


def check_each_shared(pairs):
    for house, line in enumerate(pairs):
        if line[house][0] == 0:
            raise NoPair("a house with the share 0")


def check_all_shared(pairs):
    for line in pairs:
        for share in line:
            if share[0] == 0:
                raise NoPair("two houses with the share 0")


def check_lot(thing, drawing):
    # is_lot comes first: Python takes True for 1, here a truth is no house.
    if not is_lot(thing, drawing[0]) or thing not in [lot for chance, lot in drawing[1]]:
        raise NoLot("no lot of the drawing")


def rising_pairs(houses):
    pairs = []
    for place, one in enumerate(houses):
        pairs.extend([(one, other) for other in houses[place + 1:]])
    return pairs


def all_pairs(houses):
    pairs = []
    for one in houses:
        pairs.extend([(one, other) for other in houses])
    return pairs


def both_shares(pairs, two):
    return frac_times(pairs[two[0]][two[0]], pairs[two[1]][two[1]])


def pair_share(pairs, two):
    return pairs[two[0]][two[1]]


def pair_part(pairs, two, weights, worths):
    one = frac_times(weights[two[0]], worths[two[0]])
    other = frac_times(weights[two[1]], worths[two[1]])
    return frac_times(frac_less(pair_share(pairs, two), both_shares(pairs, two)), frac_times(one, other))


def gap_part(pairs, two, worths):
    one = frac_by(worths[two[0]], pairs[two[0]][two[0]])
    other = frac_by(worths[two[1]], pairs[two[1]][two[1]])
    gap = frac_less(one, other)
    return frac_times(frac_less(both_shares(pairs, two), pair_share(pairs, two)), frac_times(gap, gap))


def guess_spread(drawing, weights, worths):
    check_drawing(drawing)
    check_weights(weights, drawing[0])
    check_worths(worths, drawing[0])
    return spread_of(drawing[1], lot_guesses(drawing, weights, worths))


def pairs_spread(drawing, weights, worths):
    pairs = pair_shares(drawing)
    check_weights(weights, drawing[0])
    check_worths(worths, drawing[0])
    houses = list(range(drawing[0]))
    return frac_total([pair_part(pairs, two, weights, worths) for two in all_pairs(houses)])


def gaps_spread(drawing, worths):
    pairs = pair_shares(drawing)
    check_one_size(drawing)
    check_each_shared(pairs)
    check_worths(worths, drawing[0])
    houses = list(range(drawing[0]))
    return frac_total([gap_part(pairs, two, worths) for two in rising_pairs(houses)])


def spread_guess(drawing, weights, lot, worths):
    pairs = pair_shares(drawing)
    check_all_shared(pairs)
    check_lot(lot, drawing)
    check_weights(weights, drawing[0])
    check_worths(worths, drawing[0])
    parts = [frac_by(pair_part(pairs, two, weights, worths), pair_share(pairs, two)) for two in all_pairs(lot)]
    return frac_total(parts)


def gaps_guess(drawing, lot, worths):
    pairs = pair_shares(drawing)
    check_one_size(drawing)
    check_all_shared(pairs)
    check_lot(lot, drawing)
    check_worths(worths, drawing[0])
    parts = [frac_by(gap_part(pairs, two, worths), pair_share(pairs, two)) for two in rising_pairs(lot)]
    return frac_total(parts)


def two_worths(many, two, one, other):
    worths = [(0, 1)] * many
    worths[two[0]] = (one, 1)
    worths[two[1]] = (other, 1)
    return worths


def blind_worths(drawing):
    pairs = pair_shares(drawing)
    check_each_shared(pairs)
    blind = [two for two in rising_pairs(list(range(drawing[0]))) if pair_share(pairs, two)[0] == 0]
    if blind == []:
        return None
    told = []
    for one in (1, -1):
        for other in (1, -1):
            told.append(two_worths(drawing[0], blind[0], one, other))
    return told
