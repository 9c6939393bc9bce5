"""The calls that ask for rules alone. Each answers its list of numbers."""

from keepclear.refusals import OUT_OF_RANGE
from keepclear.rulebook import Rulebook, first_unlike, situations_where, weights_of
from keepclear.rules import read_rules, written
from keepclear.situations import SITUATIONS, situation_of
from keepclear.words import BOTH, NOBODY


def answer_load(water, text):
    reading = read_rules(text)
    if reading.refusal != 0:
        return [reading.refusal]
    water.book = Rulebook(reading.rules, water.fits)
    return [len(reading.rules)]


def answer_text(water, numbers):
    text = written(water.book.rules)
    return [len(text)] + text


def count_and_first(found):
    answer = [len(found)]
    if len(found) > 0:
        answer.extend(situation_of(found[0]))
    return answer


def answer_gaps(water, numbers):
    return count_and_first(situations_where(water.book, NOBODY))


def answer_doubles(water, numbers):
    return count_and_first(situations_where(water.book, BOTH))


def answer_weights(water, numbers):
    answer = [len(water.book.rules)]
    for weight in weights_of(water.book):
        answer.extend(weight)
    return answer


def answer_alike(water, text):
    reading = read_rules(text)
    if reading.refusal != 0:
        return [reading.refusal]
    unlike = first_unlike(water.book, Rulebook(reading.rules, water.fits))
    if unlike is None:
        return [1]
    return [0] + list(situation_of(unlike))


def answer_decide(water, numbers):
    number = numbers[0]
    if not 0 <= number < SITUATIONS:
        return [OUT_OF_RANGE]
    return list(water.book.verdicts[number]) + list(situation_of(number))


# By the calls' numbers.
ANSWERERS = {
    0: answer_load,
    1: answer_text,
    2: answer_gaps,
    3: answer_doubles,
    4: answer_weights,
    5: answer_alike,
    6: answer_decide,
}


def answer_rule_call(water, call, numbers):
    answerer = ANSWERERS[call]
    return answerer(water, numbers)
