"""When two hulls touch that move without turning. A moment is a pair: upper number, lower number."""

from keepclear.boats import heading_of
from keepclear.geometry import cross_product, is_less, less, product

NOW = (0, 1)


# Both hulls have a place in common just while some numbers, which all change evenly, stay in bounds. Such bounds are
# told as (least, rate, most): the rate times the moment is no less than the one and no more than the other.
def bounds_of(hull, other_hull, apart, speed):
    spread = cross_product(hull, other_hull)
    if spread == 0:
        return bounds_of_parallels(hull, other_hull, apart, speed)
    return [
        bounds_from(cross_product(apart, other_hull), spread, cross_product(speed, other_hull)),
        bounds_from(cross_product(apart, hull), spread, cross_product(speed, hull)),
    ]


# The lines of both hulls cross at one place; it lies on a hull while its part of the spread is from none to all.
def bounds_from(end, spread, rate):
    return (min(end, end - spread), rate, max(end, end - spread))


# The first bounds ask that both hulls lie in one line, the second that they overlap along it.
def bounds_of_parallels(hull, other_hull, apart, speed):
    beside = cross_product(apart, hull)
    one_end = product(apart, hull)
    other_end = one_end + product(other_hull, hull)
    least = min(one_end, other_end) - product(hull, hull)
    return [
        (beside, cross_product(speed, hull), beside),
        (least, product(speed, hull), max(one_end, other_end)),
    ]


# The moment from which on bounds can hold; where nothing changes they hold always or never.
def entry_of(bounds):
    rate = bounds[1]
    if rate == 0:
        return NOW
    return (bounds[0], rate) if rate > 0 else (-bounds[2], -rate)


def holds_at(bounds, moment):
    return bounds[0] * moment[1] <= bounds[1] * moment[0] <= bounds[2] * moment[1]


def in_least_terms(moment):
    divisor = moment[1]
    rest = moment[0]
    while rest != 0:
        remainder = divisor % rest
        divisor = rest
        rest = remainder
    return (moment[0] // divisor, moment[1] // divisor)


# None if the hulls never touch. The speed is that of the boat as the other one sees it.
def first_contact(boat, other, speed):
    apart = less(other.stern, boat.stern)
    asked = bounds_of(heading_of(boat), heading_of(other), apart, speed)
    first = NOW
    for bounds in asked:
        if is_less(first, entry_of(bounds)):
            first = entry_of(bounds)
    if all([holds_at(bounds, first) for bounds in asked]):
        return in_least_terms(first)
    return None
