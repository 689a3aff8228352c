"""Drawings put together: by layers, and drawings within drawings."""

from sharesample.drawings import MOST_HOUSES, check_drawing
from sharesample.errors import NoDrawing, NoGroups, TooMany
from sharesample.fracs import frac_times, frac_total

MOST_LAYERS = 4
MOST_CHOICES = 500


def check_layers(thing):
    if not isinstance(thing, list):
        raise NoDrawing("no list of drawings")
    for drawing in thing:
        check_drawing(drawing)
    if len(thing) < 1 or len(thing) > MOST_LAYERS:
        raise TooMany("no layers or too many")


def check_groups(thing, many):
    if not isinstance(thing, list) or len(thing) != many:
        raise NoGroups("no list of a drawing for each group")
    for drawing in thing:
        check_drawing(drawing)


def check_bounds(drawing, inner):
    if sum([part[0] for part in inner]) > MOST_HOUSES:
        raise TooMany("too many houses")
    if sum([count_choices(inner, groups) for chance, groups in drawing[1]]) > MOST_CHOICES:
        raise TooMany("too many choices of lots")


def count_choices(inner, groups):
    count = 1
    for group in groups:
        count *= len(inner[group][1])
    return count


def rows_behind(inner):
    # The rows of each drawing, its houses numbered on behind those of the ones ahead.
    ahead = 0
    told = []
    for drawing in inner:
        told.append([(chance, tuple([ahead + house for house in lot])) for chance, lot in drawing[1]])
        ahead += drawing[0]
    return told


def chosen_rows(chance, layers):
    # Layers rise, and so do the houses of the lots that are put together of them.
    chosen = [(chance, ())]
    for rows in layers:
        longer = []
        for made in chosen:
            longer.extend([(frac_times(made[0], row[0]), made[1] + row[1]) for row in rows])
        chosen = longer
    return chosen


def drawn_within(drawing, inner):
    layers = rows_behind(inner)
    ways = {}
    for chance, groups in drawing[1]:
        for part, lot in chosen_rows(chance, [layers[group] for group in groups]):
            ways.setdefault(lot, []).append(part)
    # Each lot's chances are summed by themselves: one bottom for all lots would be far longer.
    return (sum([part[0] for part in inner]), [(frac_total(ways[lot]), lot) for lot in sorted(ways)])


def layered(drawings):
    check_layers(drawings)
    # Layers are groups that are all drawn.
    everyone = (len(drawings), [((1, 1), tuple(range(len(drawings))))])
    check_bounds(everyone, drawings)
    return drawn_within(everyone, drawings)


def within(drawing, inner):
    check_drawing(drawing)
    check_groups(inner, drawing[0])
    check_bounds(drawing, inner)
    return drawn_within(drawing, inner)
