"""Exact fractions: tuples of a top and a bottom in lowest terms."""

from sharesample.errors import NoBottom


def is_whole(thing):
    # Python counts True and False among the whole numbers; here they are none.
    return isinstance(thing, int) and not isinstance(thing, bool)


def common_divisor(one, other):
    while other != 0:
        rest = one % other
        one = other
        other = rest
    return abs(one)


def fraction_of(top, bottom):
    if bottom == 0:
        raise NoBottom("a bottom of 0")
    divisor = common_divisor(top, bottom)
    if bottom < 0:
        divisor = -divisor
    return (top // divisor, bottom // divisor)


def is_fraction(thing):
    if not isinstance(thing, tuple) or len(thing) != 2:
        return False
    if not is_whole(thing[0]) or not is_whole(thing[1]):
        return False
    return thing[1] >= 1 and common_divisor(thing[0], thing[1]) == 1


def are_fractions(thing, many):
    if not isinstance(thing, list) or len(thing) != many:
        return False
    return all([is_fraction(part) for part in thing])


def frac_sum(one, other):
    return fraction_of(one[0] * other[1] + other[0] * one[1], one[1] * other[1])


def frac_less(one, other):
    return fraction_of(one[0] * other[1] - other[0] * one[1], one[1] * other[1])


def frac_times(one, other):
    return fraction_of(one[0] * other[0], one[1] * other[1])


def frac_by(one, other):
    return fraction_of(one[0] * other[1], one[1] * other[0])


def frac_below(one, other):
    return one[0] * other[1] < other[0] * one[1]


# Many fractions are summed over one bottom, as whole numbers, and reduced once:
# reducing after each step would cost far more where bottoms are long.


def common_bottom(some):
    bottom = 1
    for part in some:
        bottom = bottom // common_divisor(bottom, part[1]) * part[1]
    return bottom


def tops_over(some, bottom):
    return [part[0] * (bottom // part[1]) for part in some]


def over_one(some):
    bottom = common_bottom(some)
    return (bottom, tops_over(some, bottom))


def frac_total(some):
    tops = over_one(some)
    return fraction_of(sum(tops[1]), tops[0])
