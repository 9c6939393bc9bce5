"""The calls that change or tell the wind, the mark, the boats and rooms. Each answers its list of numbers."""

from keepclear.boats import boat_moved, boat_placed
from keepclear.geometry import mirrored, turned
from keepclear.refusals import NO_REFUSAL, ONE_PLACE, OUT_OF_RANGE, is_boat_number, refusal_of_boat, refusal_of_pair
from keepclear.rooms import rooms_exchanged, rooms_told

FURTHEST = 1000000
WIDEST_ZONE = 1000000
STRONGEST = 1000


def is_place(place):
    return -FURTHEST <= place[0] <= FURTHEST and -FURTHEST <= place[1] <= FURTHEST


def is_wind(wind):
    if not (-STRONGEST <= wind[0] <= STRONGEST and -STRONGEST <= wind[1] <= STRONGEST):
        return False
    return wind != (0, 0)


def is_closeness(closeness):
    return 0 <= closeness[0] <= STRONGEST and 1 <= closeness[1] <= STRONGEST


def tell_rooms(water):
    water.rooms = rooms_told(water.boats, water.rooms, water.mark, water.zone)


def answer_wind(water, numbers):
    wind = (numbers[0], numbers[1])
    closeness = (numbers[2], numbers[3])
    if not (is_wind(wind) and is_closeness(closeness)):
        return [OUT_OF_RANGE]
    water.wind = wind
    water.closeness = closeness
    water.boats = {}
    water.rooms = {}
    return [0]


def answer_mark(water, numbers):
    mark = (numbers[0], numbers[1])
    zone = numbers[2]
    if not (is_place(mark) and 0 <= zone <= WIDEST_ZONE):
        return [OUT_OF_RANGE]
    water.mark = mark
    water.zone = zone
    water.rooms = {}
    tell_rooms(water)
    return [0]


def answer_place(water, numbers):
    number = numbers[0]
    bow = (numbers[1], numbers[2])
    stern = (numbers[3], numbers[4])
    if not (is_boat_number(number) and is_place(bow) and is_place(stern)):
        return [OUT_OF_RANGE]
    if bow == stern:
        return [ONE_PLACE]
    boat = boat_placed(bow, stern, water.boats.get(number), water.wind, water.closeness)
    water.boats[number] = boat
    tell_rooms(water)
    return [boat.port, boat.tacking]


def answer_away(water, numbers):
    number = numbers[0]
    refusal = refusal_of_boat(water.boats, number)
    if refusal != NO_REFUSAL:
        return [refusal]
    water.boats.pop(number)
    tell_rooms(water)
    return [0]


def answer_boats(water, numbers):
    answer = [len(water.boats)]
    for number in sorted(water.boats):
        boat = water.boats[number]
        answer.append(number)
        answer.extend(boat.bow)
        answer.extend(boat.stern)
        answer.append(boat.port)
        answer.append(boat.tacking)
    return answer


def answer_rooms(water, numbers):
    answer = [len(water.rooms)]
    for pair in sorted(water.rooms):
        holder = water.rooms[pair]
        answer.append(holder)
        answer.append(pair[1] if holder == pair[0] else pair[0])
    return answer


# Rooms aren't told anew: how boats lie and how near they are to the mark stays.
def move_all(water, move, other_tack):
    water.wind = move(water.wind)
    water.mark = move(water.mark)
    for number in list(water.boats):
        water.boats[number] = boat_moved(water.boats[number], move, other_tack)


def answer_mirror(water, numbers):
    move_all(water, mirrored, 1)
    return [0]


def answer_turn(water, numbers):
    move_all(water, turned, 0)
    return [0]


def answer_exchange(water, numbers):
    one = numbers[0]
    another = numbers[1]
    refusal = refusal_of_pair(water.boats, one, another)
    if refusal != NO_REFUSAL:
        return [refusal]
    boat = water.boats[one]
    water.boats[one] = water.boats[another]
    water.boats[another] = boat
    water.rooms = rooms_exchanged(water.rooms, one, another)
    return [0]


# By the calls' numbers.
ANSWERERS = {
    7: answer_wind,
    8: answer_mark,
    9: answer_place,
    10: answer_away,
    11: answer_boats,
    14: answer_rooms,
    17: answer_mirror,
    18: answer_turn,
    19: answer_exchange,
}


def answer_boat_call(water, call, numbers):
    answerer = ANSWERERS[call]
    return answerer(water, numbers)
