"""The calls that change the wind, the mark and the boats. Each answers its list of numbers."""

from keepclear.boats import boat_placed
from keepclear.rooms import rooms_told

MOST_BOATS = 8
FURTHEST = 1000000
WIDEST_ZONE = 1000000
STRONGEST = 1000

OUT_OF_RANGE = -1
ONE_PLACE = -3


def is_boat_number(number):
    return 0 <= number < MOST_BOATS


def is_place(place):
    return -FURTHEST <= place[0] <= FURTHEST and -FURTHEST <= place[1] <= FURTHEST


def is_wind(wind):
    if not (-STRONGEST <= wind[0] <= STRONGEST and -STRONGEST <= wind[1] <= STRONGEST):
        return False
    return wind != (0, 0)


def is_closeness(closeness):
    return 0 <= closeness[0] <= STRONGEST and 1 <= closeness[1] <= STRONGEST


def tell_rooms(water):
    water.rooms = rooms_told(water.boats, water.rooms, water.mark, water.zone)


def answer_wind(water, numbers):
    wind = (numbers[0], numbers[1])
    closeness = (numbers[2], numbers[3])
    if not (is_wind(wind) and is_closeness(closeness)):
        return [OUT_OF_RANGE]
    water.wind = wind
    water.closeness = closeness
    water.boats = {}
    water.rooms = {}
    return [0]


def answer_mark(water, numbers):
    mark = (numbers[0], numbers[1])
    zone = numbers[2]
    if not (is_place(mark) and 0 <= zone <= WIDEST_ZONE):
        return [OUT_OF_RANGE]
    water.mark = mark
    water.zone = zone
    water.rooms = {}
    tell_rooms(water)
    return [0]


def answer_place(water, numbers):
    number = numbers[0]
    bow = (numbers[1], numbers[2])
    stern = (numbers[3], numbers[4])
    if not (is_boat_number(number) and is_place(bow) and is_place(stern)):
        return [OUT_OF_RANGE]
    if bow == stern:
        return [ONE_PLACE]
    boat = boat_placed(bow, stern, water.boats.get(number), water.wind, water.closeness)
    water.boats[number] = boat
    tell_rooms(water)
    return [boat.port, boat.tacking]


# By the calls' numbers.
ANSWERERS = {
    7: answer_wind,
    8: answer_mark,
    9: answer_place,
}


def answer_boat_call(water, call, numbers):
    answerer = ANSWERERS[call]
    return answerer(water, numbers)
