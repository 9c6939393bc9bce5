"""The refusals that several calls share, and what they look at."""

MOST_BOATS = 8

OUT_OF_RANGE = -1
SAME_BOAT = -2
ONE_PLACE = -3
NOT_THERE = -4
# In the place of a refusal where nothing is wrong.
NO_REFUSAL = 0


def is_boat_number(number):
    return 0 <= number < MOST_BOATS


def refusal_of_boat(boats, number):
    if not is_boat_number(number):
        return OUT_OF_RANGE
    return NO_REFUSAL if number in boats else NOT_THERE


def refusal_of_pair(boats, one, another):
    if not (is_boat_number(one) and is_boat_number(another)):
        return OUT_OF_RANGE
    if one == another:
        return SAME_BOAT
    return NO_REFUSAL if one in boats and another in boats else NOT_THERE
