"""The words of rules, and of whom each is true in every situation."""

from keepclear.situations import SITUATIONS, from_other_side, situation_of

# Who: these numbers can be added and cut (&), and are a verdict's first number.
NOBODY = 0
IT = 1
OTHER = 2
BOTH = 3

# Which part of a situation a word asks for, and the value that makes it true.
ASKED = {
    "port": (0, 1),
    "other.port": (1, 1),
    "tacking": (2, 1),
    "other.tacking": (3, 1),
    "astern": (4, 1),
    "ahead": (4, 2),
    "overlapped": (4, 3),
    "windward": (5, 1),
    "leeward": (5, 0),
    "room": (6, 1),
    "other.room": (7, 1),
}
# The one word that asks for two parts at once.
OPPOSITE = "opposite"


def all_words():
    return [OPPOSITE] + list(ASKED)


def is_true(word, parts):
    if word == OPPOSITE:
        return parts[0] != parts[1]
    asked = ASKED[word]
    return parts[asked[0]] == asked[1]


def whom_word_fits(word, parts, turned):
    who = NOBODY
    if is_true(word, parts):
        who += IT
    if is_true(word, turned):
        who += OTHER
    return who


# Told once for a whole line of calls: rules are then put together from these lists.
def fits_of_words():
    situations = [situation_of(number) for number in range(SITUATIONS)]
    sights = [(parts, from_other_side(parts)) for parts in situations]
    fits = {}
    for word in all_words():
        fits[word] = [whom_word_fits(word, sight[0], sight[1]) for sight in sights]
    return fits
