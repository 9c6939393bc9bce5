"""The 384 situations of two boats, each as the eight numbers that tell it."""

SITUATIONS = 384

ASTERN = 1
AHEAD = 2
OVERLAPPED = 3

# How many values each of the eight parts has; the first part weighs most in the order.
PART_SIZES = (2, 2, 2, 2, 3, 2, 2, 2)
LIE = 4
LIE_OF_OTHER = {1: 2, 2: 1, 3: 3}


def situation_of(number):
    parts = []
    rest = number
    for size in reversed(PART_SIZES):
        parts.append(rest % size)
        rest = rest // size
    parts.reverse()
    # How a boat lies is told from 1 on, every other part from 0 on.
    parts[LIE] += 1
    return tuple(parts)


def number_of(parts):
    number = 0
    for place, size in enumerate(PART_SIZES):
        value = parts[place] - 1 if place == LIE else parts[place]
        number = number * size + value
    return number


def from_other_side(parts):
    lie = LIE_OF_OTHER[parts[LIE]]
    return (parts[1], parts[0], parts[3], parts[2], lie, 1 - parts[5], parts[7], parts[6])
