"""Building lines of calls, and parting their answers."""

from keepclear.water import answers

SAILING = (
    "rule tacks when opposite port\n"
    "rule turning when tacking not other.tacking\n"
    "rule behind when not opposite astern\n"
    "rule side when not opposite overlapped windward\n"
)


def load(text):
    return with_text(0, text)


def alike(text):
    return with_text(5, text)


def with_text(call, text):
    numbers = list(text.encode("latin-1")) if isinstance(text, str) else list(text)
    return [call, len(numbers)] + numbers


TEXT = [1]
GAPS = [2]
DOUBLES = [3]
WEIGHTS = [4]


def decide(number):
    return [6, number]


def wind(x, y, p=1, q=1):
    return [7, x, y, p, q]


def mark(x, y, z):
    return [8, x, y, z]


def place(number, bow, stern=(0, 0)):
    return [9, number, bow[0], bow[1], stern[0], stern[1]]


def away(number):
    return [10, number]


BOATS = [11]


def sit(a, b):
    return [12, a, b]


def who(a, b):
    return [13, a, b]


ROOMS = [14]
RING = [15]


def contact(a, b, speed=(0, 0), other_speed=(0, 0)):
    return [16, a, b, speed[0], speed[1], other_speed[0], other_speed[1]]


MIRROR = [17]
TURN = [18]


def exchange(a, b):
    return [19, a, b]


def east(number, x, y=0, length=10):
    """A boat that points to the east, on port tack in the wind from 0 1; x, y is its stern."""
    return place(number, (x + length, y), (x, y))


def west(number, x, y=0, length=10):
    """A boat that points to the west, on starboard tack."""
    return place(number, (x - length, y), (x, y))


# Headings in the wind that is there at the beginning, which comes from 0 1.
PORT = (1, 0)
STARBOARD = (-1, 0)
INTO_WIND = (0, 1)
BEFORE_WIND = (0, -1)
CLOSE_PORT = (1, 2)
CLOSE_STARBOARD = (-1, 2)

FAR = 1000000
ENDS = (2147483647, -2147483648)


def wrong_pairs(there, gone):
    """Wrong numbers a and b with their refusals; boat there is there, boat gone is not."""
    wrong = []
    for number in (-1, 8) + ENDS:
        # What comes first is told, whatever else is wrong.
        for other in (there, gone, number, 9):
            wrong += [(number, other, -1), (other, number, -1)]
    wrong += [(there, there, -2), (gone, gone, -2)]
    wrong += [(there, gone, -4), (gone, there, -4), (gone, 7 if gone != 7 else 6, -4)]
    return wrong


def told(*calls):
    """The answers of one line, a list for each call."""
    numbers = answers([number for call in calls for number in call])
    parted = []
    while numbers:
        count = numbers[0]
        parted.append(numbers[1:count + 1])
        numbers = numbers[count + 1:]
    assert len(parted) == len(calls), (len(parted), len(calls))
    return parted


def last(*calls):
    return told(*calls)[-1]


def written(text):
    """What the call text answers for rules that are written so."""
    return [len(text)] + list(text.encode())
