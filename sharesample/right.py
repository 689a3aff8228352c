"""Weights put right by a known sum."""

from sharesample.drawings import MOST_HOUSES, is_lot
from sharesample.errors import NoLot, NoWeights
from sharesample.fracs import frac_by, frac_less, frac_sum, frac_times, frac_total
from sharesample.guesses import check_weights, check_worths


def check_some_weights(thing):
    if not isinstance(thing, list) or len(thing) < 1 or len(thing) > MOST_HOUSES:
        raise NoWeights("no list of one to twelve weights")
    check_weights(thing, len(thing))


def check_rising(thing, many):
    if not is_lot(thing, many):
        raise NoLot("no lot of these houses")


def check_above_nought(weights, lot):
    for house in lot:
        if weights[house][0] <= 0:
            raise NoWeights("a weight that isn't above 0")


def right_number(helped, lot, helps, total):
    # Helped is weight times help, for each house. Where nobody of the lot has a help, frac_by refuses.
    short = frac_less(total, frac_total([helped[house] for house in lot]))
    return frac_by(short, frac_total([frac_times(helped[house], helps[house]) for house in lot]))


def put_right(weights, lot, helps, total):
    check_some_weights(weights)
    check_rising(lot, len(weights))
    check_above_nought(weights, lot)
    check_worths(helps, len(weights))
    helped = [frac_times(weight, part) for weight, part in zip(weights, helps)]
    number = right_number(helped, lot, helps, total)
    told = list(weights)
    for house in lot:
        told[house] = frac_sum(weights[house], frac_times(number, helped[house]))
    return told


def moved_by(weights, lot, others):
    check_some_weights(weights)
    check_weights(others, len(weights))
    check_rising(lot, len(weights))
    check_above_nought(weights, lot)
    changes = [frac_less(other, weight) for weight, other in zip(weights, others)]
    return frac_total([frac_by(frac_times(changes[house], changes[house]), weights[house]) for house in lot])
