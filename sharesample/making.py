"""Drawings made of told shares, in four ways."""

from sharesample.drawings import MOST_HOUSES, drawing_of, is_drawing, lot_shares
from sharesample.errors import NoShares
from sharesample.fracs import common_bottom, fraction_of, is_fraction, tops_over

MOST_ALONE = 7


def is_share(thing):
    return is_fraction(thing) and thing[0] >= 0 and thing[0] <= thing[1]


def is_share_list(thing, most):
    if not isinstance(thing, list) or len(thing) < 1 or len(thing) > most:
        return False
    return all([is_share(part) for part in thing])


def lot_size(shares):
    # None where the shares sum to no whole number.
    bottom = common_bottom(shares)
    total = sum(tops_over(shares, bottom))
    return total // bottom if total % bottom == 0 else None


def check_shares(thing):
    if not is_share_list(thing, MOST_HOUSES) or lot_size(thing) is None:
        raise NoShares("no shares")


def judge_shares(shares, drawing):
    check_shares(shares)
    if not is_drawing(drawing) or drawing[0] != len(shares):
        return False
    size = lot_size(shares)
    for chance, lot in drawing[1]:
        if len(lot) != size:
            return False
    return lot_shares(drawing) == shares


def line_drawing(shares):
    check_shares(shares)
    whole = common_bottom(shares)
    lengths = tops_over(shares, whole)
    starts = [sum(lengths[:house]) for house in range(len(lengths))]
    # Lots change only where a stretch begins, so all beginnings from one such place to the next make one lot.
    turns = sorted(set([start % whole for start in starts]))
    weights = {}
    for turn, until in zip(turns, turns[1:] + [whole]):
        lot = line_lot(turn, starts, lengths, whole)
        weights[lot] = weights.get(lot, 0) + until - turn
    return drawing_of(len(shares), weights, whole)


def line_lot(begin, starts, lengths, whole):
    # (begin - start) % whole is the way from a stretch's start to the next of begin, begin + whole ..
    return tuple([house for house, start in enumerate(starts) if (begin - start) % whole < lengths[house]])


def taken_drawing(shares):
    check_shares(shares)
    whole = common_bottom(shares)
    left = tops_over(shares, whole)
    size = lot_size(shares)
    undealt = whole
    weights = {}
    while undealt > 0:
        lot = greatest_lot(left, size)
        weight = most_weight(left, lot, undealt)
        weights[lot] = weights.get(lot, 0) + weight
        left = [part - weight if house in lot else part for house, part in enumerate(left)]
        undealt -= weight
    return drawing_of(len(shares), weights, whole)


def greatest_lot(left, size):
    # sorted keeps like ones in order, so of like shares the lesser houses come first.
    ranked = sorted(range(len(left)), key=lambda house: -left[house])
    return tuple(sorted(ranked[:size]))


def most_weight(left, lot, undealt):
    inside = [left[house] for house in lot]
    outside = [undealt - part for house, part in enumerate(left) if house not in lot]
    return min(inside + outside)


def pairs_drawing(shares):
    check_shares(shares)
    whole = common_bottom(shares)
    start = tuple(tops_over(shares, whole))
    ways = {start: 1}
    bottom = 1
    # Whoever wins, the same share is carried on: so at each turn all ways are played
    # with one chance, and their weights keep one bottom.
    chance = first_wins(start, whole)
    while chance is not None:
        ways = played_on(ways, chance, whole)
        bottom *= chance[1]
        chance = first_wins(list(ways)[0], whole)
    return drawing_of(len(shares), settled_lots(ways, whole), bottom)


def unsettled(parts, whole):
    return [house for house, part in enumerate(parts) if part > 0 and part < whole]


def first_wins(parts, whole):
    # None where nobody is left to play: the sum is whole, so never is just one left.
    two = unsettled(parts, whole)
    if two == []:
        return None
    one = parts[two[0]]
    other = parts[two[1]]
    if one + other <= whole:
        return fraction_of(one, one + other)
    return fraction_of(whole - other, 2 * whole - one - other)


def played_on(ways, chance, whole):
    after = {}
    for parts, weight in ways.items():
        two = unsettled(parts, whole)
        won = outcome(parts, two[0], two[1], whole)
        lost = outcome(parts, two[1], two[0], whole)
        after[won] = after.get(won, 0) + weight * chance[0]
        after[lost] = after.get(lost, 0) + weight * (chance[1] - chance[0])
    return after


def outcome(parts, winner, loser, whole):
    both = parts[winner] + parts[loser]
    after = list(parts)
    after[winner] = min(both, whole)
    after[loser] = both - after[winner]
    return tuple(after)


def settled_lots(ways, whole):
    weights = {}
    for parts, weight in ways.items():
        weights[tuple([house for house, part in enumerate(parts) if part == whole])] = weight
    return weights


def alone_drawing(shares):
    if not is_share_list(shares, MOST_ALONE):
        raise NoShares("no shares")
    weights = {(): 1}
    bottom = 1
    for house, share in enumerate(shares):
        after = {}
        for lot, weight in weights.items():
            after[lot] = weight * (share[1] - share[0])
            after[lot + (house,)] = weight * share[0]
        weights = after
        bottom *= share[1]
    return drawing_of(len(shares), weights, bottom)
