"""Rules in their order, gone through for every situation."""

from keepclear.situations import SITUATIONS
from keepclear.words import BOTH, NOBODY


class Rulebook:
    def __init__(self, rules, fits):
        self.rules = rules
        # For each rule, whom it applies to in every situation.
        self.fitting = [whom_rule_fits(rule, fits) for rule in rules]
        self.verdicts = [verdict_from(self.fitting, number, 0) for number in range(SITUATIONS)]


def whom_rule_fits(rule, fits):
    whom = [BOTH] * SITUATIONS
    for word, negated in rule.words:
        if negated:
            whom = [who & (BOTH - fit) for who, fit in zip(whom, fits[word])]
        else:
            whom = [who & fit for who, fit in zip(whom, fits[word])]
    return whom


# The verdict as it is told, by the rules from first on.
def verdict_from(fitting, number, first):
    for rule in range(first, len(fitting)):
        who = fitting[rule][number]
        if who != NOBODY:
            return (who, rule)
    return (NOBODY,)


def situations_where(book, who):
    return [number for number, verdict in enumerate(book.verdicts) if verdict[0] == who]


# For each rule how many situations it decides, and 1 if nothing would change without it.
def weights_of(book):
    counts = [0 for rule in book.rules]
    needless = [1 for rule in book.rules]
    for number, verdict in enumerate(book.verdicts):
        if verdict[0] == NOBODY:
            continue
        rule = verdict[1]
        counts[rule] += 1
        # Rules above this one don't apply here, so without it those below decide.
        if verdict_from(book.fitting, number, rule + 1)[0] != verdict[0]:
            needless[rule] = 0
    return list(zip(counts, needless))


# None where the same boats keep clear everywhere.
def first_unlike(book, another):
    for number in range(SITUATIONS):
        if book.verdicts[number][0] != another.verdicts[number][0]:
            return number
    return None
