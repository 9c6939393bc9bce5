"""Building lines of calls, and parting their answers."""

from keepclear.water import answers

SAILING = (
    "rule tacks when opposite port\n"
    "rule turning when tacking not other.tacking\n"
    "rule behind when not opposite astern\n"
    "rule side when not opposite overlapped windward\n"
)


def load(text):
    return with_text(0, text)


def alike(text):
    return with_text(5, text)


def with_text(call, text):
    numbers = list(text.encode("latin-1")) if isinstance(text, str) else list(text)
    return [call, len(numbers)] + numbers


TEXT = [1]
GAPS = [2]
DOUBLES = [3]
WEIGHTS = [4]


def decide(number):
    return [6, number]


def wind(x, y, p=1, q=1):
    return [7, x, y, p, q]


def mark(x, y, z):
    return [8, x, y, z]


def place(number, bow, stern=(0, 0)):
    return [9, number, bow[0], bow[1], stern[0], stern[1]]


def told(*calls):
    """The answers of one line, a list for each call."""
    numbers = answers([number for call in calls for number in call])
    parted = []
    while numbers:
        count = numbers[0]
        parted.append(numbers[1:count + 1])
        numbers = numbers[count + 1:]
    assert len(parted) == len(calls), (len(parted), len(calls))
    return parted


def last(*calls):
    return told(*calls)[-1]


def written(text):
    """What the call text answers for rules that are written so."""
    return [len(text)] + list(text.encode())
