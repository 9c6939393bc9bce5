"""Places and directions as pairs x, y, measured without rounding."""


def less(place, origin):
    return (place[0] - origin[0], place[1] - origin[1])


def product(one, another):
    return one[0] * another[0] + one[1] * another[1]


def cross_product(one, another):
    return one[0] * another[1] - one[1] * another[0]


def mirrored(place):
    return (-place[0], place[1])


def turned(place):
    return (-place[1], place[0])


# The square of the least distance between a place and the straight line between two ends,
# as a pair: upper number, lower number (above 0). The ends are unlike.
def squared_distance(place, start, end):
    along = less(end, start)
    away = less(place, start)
    length = product(along, along)
    reach = product(away, along)
    if reach <= 0:
        return (product(away, away), 1)
    if reach >= length:
        beyond = less(place, end)
        return (product(beyond, beyond), 1)
    across = cross_product(along, away)
    return (across * across, length)


def is_less(one, another):
    return one[0] * another[1] < another[0] * one[1]
