"""The calls that ask how boats on the water meet, and change nothing. Each answers its list of numbers."""

from keepclear.contact import first_contact
from keepclear.geometry import less
from keepclear.meetings import keepers_of, situation_between, verdict_between
from keepclear.overlaps import links_of
from keepclear.refusals import NO_REFUSAL, OUT_OF_RANGE, refusal_of_pair
from keepclear.rings import ring_told

FASTEST = 1000


def answer_sit(water, numbers):
    refusal = refusal_of_pair(water.boats, numbers[0], numbers[1])
    if refusal != NO_REFUSAL:
        return [refusal]
    return list(situation_between(water, links_of(water.boats), numbers[0], numbers[1]))


def answer_who(water, numbers):
    refusal = refusal_of_pair(water.boats, numbers[0], numbers[1])
    if refusal != NO_REFUSAL:
        return [refusal]
    return list(verdict_between(water, links_of(water.boats), numbers[0], numbers[1]))


def answer_ring(water, numbers):
    ring = ring_told(keepers_of(water))
    return [len(ring)] + ring


def answer_contact(water, numbers):
    speeds = numbers[2:]
    if not all([-FASTEST <= speed <= FASTEST for speed in speeds]):
        return [OUT_OF_RANGE]
    refusal = refusal_of_pair(water.boats, numbers[0], numbers[1])
    if refusal != NO_REFUSAL:
        return [refusal]
    speed_seen = less(speeds[:2], speeds[2:])
    moment = first_contact(water.boats[numbers[0]], water.boats[numbers[1]], speed_seen)
    return [0] if moment is None else [1] + list(moment)


# By the calls' numbers.
ANSWERERS = {
    12: answer_sit,
    13: answer_who,
    15: answer_ring,
    16: answer_contact,
}


def answer_meeting_call(water, call, numbers):
    answerer = ANSWERERS[call]
    return answerer(water, numbers)
