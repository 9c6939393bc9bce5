"""Two boats on the water: their situation, and who of both keeps clear."""

from keepclear.geometry import product
from keepclear.overlaps import lie_of, links_of, pairs_of
from keepclear.situations import number_of
from keepclear.words import IT, OTHER


# Twice the middle, which may lie between whole numbers, has the same order.
def height_of(boat, wind):
    return product((boat.bow[0] + boat.stern[0], boat.bow[1] + boat.stern[1]), wind)


def is_windward(water, one, another):
    height = height_of(water.boats[one], water.wind)
    other_height = height_of(water.boats[another], water.wind)
    if height == other_height:
        return one < another
    return height > other_height


def has_room(rooms, one, another):
    return rooms.get((min(one, another), max(one, another))) == one


def situation_between(water, links, one, another):
    boat = water.boats[one]
    other = water.boats[another]
    return (
        boat.port,
        other.port,
        boat.tacking,
        other.tacking,
        lie_of(water.boats, links, one, another),
        1 if is_windward(water, one, another) else 0,
        1 if has_room(water.rooms, one, another) else 0,
        1 if has_room(water.rooms, another, one) else 0,
    )


def verdict_between(water, links, one, another):
    return water.book.verdicts[number_of(situation_between(water, links, one, another))]


# For each boat those that it keeps clear of.
def keepers_of(water):
    links = links_of(water.boats)
    clear_of = {}
    for number in water.boats:
        clear_of[number] = []
    for one, another in pairs_of(water.boats):
        who = verdict_between(water, links, one, another)[0]
        if who & IT:
            clear_of[one].append(another)
        if who & OTHER:
            clear_of[another].append(one)
    return clear_of
