"""Drawings: which lots of houses are asked, with which chances."""

from sharesample.errors import NoDrawing
from sharesample.fracs import common_bottom, fraction_of, is_fraction, is_whole, tops_over

MOST_HOUSES = 12


def are_houses(thing, many):
    # Unlike ones, in any order. A set is made of whole numbers alone: a list, say, goes into none.
    if not isinstance(thing, tuple):
        return False
    if not all([is_whole(house) and house >= 0 and house < many for house in thing]):
        return False
    return len(set(thing)) == len(thing)


def is_lot(thing, many):
    return are_houses(thing, many) and list(thing) == sorted(thing)


def is_row(thing, many):
    if not isinstance(thing, tuple) or len(thing) != 2:
        return False
    if not are_houses(thing[1], many):
        return False
    return is_fraction(thing[0]) and thing[0][0] > 0


def rows_rise(rows):
    for ahead, behind in zip(rows, rows[1:]):
        if ahead[1] >= behind[1]:
            return False
    return True


def weighed_lots(rows):
    # The chances as whole numbers over one bottom: (bottom, list of (weight, lot)).
    chances = [chance for chance, lot in rows]
    lots = [lot for chance, lot in rows]
    bottom = common_bottom(chances)
    return (bottom, list(zip(tops_over(chances, bottom), lots)))


def sums_to_one(rows):
    weighed = weighed_lots(rows)
    return sum([weight for weight, lot in weighed[1]]) == weighed[0]


def is_drawn(thing):
    # All that a row drawing must have, too: what a drawing has beyond it is that the houses of its rows rise.
    if not isinstance(thing, tuple) or len(thing) != 2:
        return False
    many = thing[0]
    rows = thing[1]
    if not is_whole(many) or many < 1 or many > MOST_HOUSES:
        return False
    if not isinstance(rows, list):
        return False
    for row in rows:
        if not is_row(row, many):
            return False
    return rows_rise(rows) and sums_to_one(rows)


def is_drawing(thing):
    return is_drawn(thing) and all([is_lot(lot, thing[0]) for chance, lot in thing[1]])


def check_drawing(thing):
    if not is_drawing(thing):
        raise NoDrawing("no drawing")


def drawing_of(many, weights, bottom):
    # Weights are whole numbers by lot; a lot's chance is its weight through the bottom.
    return (many, [(fraction_of(weights[lot], bottom), lot) for lot in sorted(weights) if weights[lot] > 0])


def joint_share(weighed, one, other):
    having = [weight for weight, lot in weighed[1] if one in lot and other in lot]
    return fraction_of(sum(having), weighed[0])


def lot_shares(drawing):
    check_drawing(drawing)
    weighed = weighed_lots(drawing[1])
    return [joint_share(weighed, house, house) for house in range(drawing[0])]


def pair_shares(drawing):
    check_drawing(drawing)
    weighed = weighed_lots(drawing[1])
    pairs = []
    for one in range(drawing[0]):
        pairs.append([joint_share(weighed, one, other) for other in range(drawing[0])])
    return pairs


def lot_sizes(drawing):
    check_drawing(drawing)
    weighed = weighed_lots(drawing[1])
    weights = {}
    for weight, lot in weighed[1]:
        weights[len(lot)] = weights.get(len(lot), 0) + weight
    return [(size, fraction_of(weights[size], weighed[0])) for size in sorted(weights)]
