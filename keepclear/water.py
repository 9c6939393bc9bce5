"""A line of calls, answered one behind another."""

from keepclear.boat_calls import answer_boat_call
from keepclear.meeting_calls import answer_meeting_call
from keepclear.rule_calls import answer_rule_call
from keepclear.state import Water

LAST_RULE_CALL = 6
MEETING_CALLS = (12, 13, 15, 16)
# The calls that have a text, with its length before it.
WITH_TEXT = (0, 5)
# By the calls' numbers: how many whole numbers the others have.
WHOLE_NUMBERS = (0, 0, 0, 0, 0, 0, 1, 4, 3, 5, 1, 0, 2, 2, 0, 0, 6, 0, 0, 2)


def answer_of(water, call, numbers):
    if call <= LAST_RULE_CALL:
        return answer_rule_call(water, call, numbers)
    if call in MEETING_CALLS:
        return answer_meeting_call(water, call, numbers)
    return answer_boat_call(water, call, numbers)


def answers(calls):
    water = Water()
    told = []
    place = 0
    while place < len(calls):
        call = calls[place]
        start = place + 1
        count = WHOLE_NUMBERS[call]
        if call in WITH_TEXT:
            count = calls[start]
            start += 1
        place = start + count
        answer = answer_of(water, call, calls[start:place])
        told.append(len(answer))
        told.extend(answer)
    return told
