"""How boats lie to one another: astern, ahead, overlapped."""

from keepclear.boats import heading_of
from keepclear.geometry import less, product
from keepclear.situations import AHEAD, ASTERN, OVERLAPPED


def is_behind(boat, another):
    heading = heading_of(another)
    bow = product(less(boat.bow, another.stern), heading)
    stern = product(less(boat.stern, another.stern), heading)
    return bow < 0 and stern < 0


def is_clear_astern(boat, another):
    return is_behind(boat, another) and not is_behind(another, boat)


def is_neither_clear(boat, another):
    return not (is_clear_astern(boat, another) or is_clear_astern(another, boat))


# Each two boats that are there, the lesser number first.
def pairs_of(boats):
    numbers = sorted(boats)
    pairs = []
    for place, lesser in enumerate(numbers):
        for greater in numbers[place + 1:]:
            pairs.append((lesser, greater))
    return pairs


# For each boat a number that it shares with all it is linked with, and with no others.
def links_of(boats):
    links = {}
    for number in boats:
        links[number] = number
    for one, another in pairs_of(boats):
        boat = boats[one]
        if boat.port == boats[another].port and is_neither_clear(boat, boats[another]):
            join_links(links, links[one], links[another])
    return links


def join_links(links, kept, given_up):
    for number in list(links):
        if links[number] == given_up:
            links[number] = kept


# How boat one lies to boat another, as it is told.
def lie_of(boats, links, one, another):
    if links[one] == links[another] or is_neither_clear(boats[one], boats[another]):
        return OVERLAPPED
    return ASTERN if is_clear_astern(boats[one], boats[another]) else AHEAD
