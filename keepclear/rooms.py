"""Which boat has room of which near the mark."""

from keepclear.geometry import is_less, squared_distance
from keepclear.overlaps import lie_of, links_of, pairs_of
from keepclear.situations import AHEAD, ASTERN


def distances_of(boats, mark):
    distances = {}
    for number in boats:
        distances[number] = squared_distance(mark, boats[number].bow, boats[number].stern)
    return distances


def is_in_zone(distance, zone):
    return zone != 0 and not is_less((zone * zone, 1), distance)


def new_holder(boats, links, distances, pair):
    lie = lie_of(boats, links, pair[0], pair[1])
    if lie == AHEAD:
        return pair[0]
    if lie == ASTERN:
        return pair[1]
    return pair[1] if is_less(distances[pair[1]], distances[pair[0]]) else pair[0]


# The rooms told anew. They are kept by pairs (lesser, greater): the one of both that has room.
def rooms_told(boats, rooms, mark, zone):
    links = links_of(boats)
    distances = distances_of(boats, mark)
    told = {}
    for pair in pairs_of(boats):
        if not (is_in_zone(distances[pair[0]], zone) or is_in_zone(distances[pair[1]], zone)):
            continue
        if pair in rooms:
            told[pair] = rooms[pair]
        else:
            told[pair] = new_holder(boats, links, distances, pair)
    return told


def number_exchanged(number, one, another):
    if number == one:
        return another
    return one if number == another else number


# The same rooms where two boats have exchanged their numbers.
def rooms_exchanged(rooms, one, another):
    exchanged = {}
    for pair in rooms:
        numbers = sorted([number_exchanged(number, one, another) for number in pair])
        exchanged[tuple(numbers)] = number_exchanged(rooms[pair], one, another)
    return exchanged
