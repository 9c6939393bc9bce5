"""Calls of all kinds mixed in one line, against a model that follows the document's words one by one."""

import itertools
import random
import unittest
from fractions import Fraction

from keepclear.water import answers

from tests.lines import (
    BOATS, DOUBLES, FAR, GAPS, MIRROR, RING, ROOMS, SAILING, TEXT, TURN, WEIGHTS, alike, away, contact, decide, east,
    exchange, load, mark, place, sit, told, west, who, wind,
)
from tests.test_contact import first_by_trying
from tests.test_verdicts import verdict


def dot(one, another):
    return one[0] * another[0] + one[1] * another[1]


def cross(one, another):
    return one[0] * another[1] - one[1] * another[0]


def minus(one, another):
    return (one[0] - another[0], one[1] - another[1])


class Model:
    """The water, slow and plain. Rooms are pairs: who has it, and of whom."""

    def __init__(self):
        self.rules = []
        self.wind, self.p, self.q = (0, 1), 1, 1
        self.mark, self.zone = (0, 0), 0
        self.boats = {}
        self.rooms = set()

    def behind(self, a, b):
        bow, stern = self.boats[b][:2]
        heading = minus(bow, stern)
        return all(dot(minus(end, stern), heading) < 0 for end in self.boats[a][:2])

    def astern(self, a, b):
        return self.behind(a, b) and not self.behind(b, a)

    def apart(self, a, b):
        return self.astern(a, b) or self.astern(b, a)

    def linked(self, a, b):
        tack = self.boats[a][2]
        if self.boats[b][2] != tack:
            return False
        group = {a}
        while True:
            more = {c for c in self.boats if self.boats[c][2] == tack and any(not self.apart(c, d) for d in group)}
            if more <= group:
                return b in group
            group |= more

    def lies(self, a, b):
        if self.linked(a, b) or not self.apart(a, b):
            return 3
        return 1 if self.astern(a, b) else 2

    def upwind(self, a, b):
        ahead, other = (dot(self.middle(c), self.wind) for c in (a, b))
        return int(ahead > other or (ahead == other and a < b))

    def middle(self, b):
        bow, stern = self.boats[b][:2]
        return (Fraction(bow[0] + stern[0], 2), Fraction(bow[1] + stern[1], 2))

    def square(self, b):
        bow, stern = self.boats[b][:2]
        hull = minus(bow, stern)
        part = Fraction(dot(minus(self.mark, stern), hull), dot(hull, hull))
        part = max(Fraction(0), min(Fraction(1), part))
        off = (stern[0] + part * hull[0] - self.mark[0], stern[1] + part * hull[1] - self.mark[1])
        return dot(off, off)

    def in_zone(self, b):
        return self.zone != 0 and self.square(b) <= self.zone ** 2

    def tell_rooms(self):
        before, self.rooms = self.rooms, set()
        for a, b in itertools.combinations(sorted(self.boats), 2):
            if not self.in_zone(a) and not self.in_zone(b):
                continue
            if (a, b) in before or (b, a) in before:
                self.rooms |= before & {(a, b), (b, a)}
            elif self.lies(a, b) == 3:
                self.rooms.add((b, a) if self.square(b) < self.square(a) else (a, b))
            else:
                self.rooms.add((a, b) if self.lies(a, b) == 2 else (b, a))

    def sit(self, a, b):
        it, other = self.boats[a], self.boats[b]
        return [it[2], other[2], it[3], other[3], self.lies(a, b), self.upwind(a, b),
                int((a, b) in self.rooms), int((b, a) in self.rooms)]

    def clear(self, a, b):
        return verdict(self.rules, tuple(self.sit(a, b)))[0] & 1

    def ring(self):
        for size in range(2, len(self.boats) + 1):
            # In order, so the first one that is found is told.
            for row in itertools.permutations(sorted(self.boats), size):
                if row[0] == min(row) and all(self.clear(a, b) for a, b in zip(row, row[1:] + row[:1])):
                    return [size] + list(row)
        return [0]

    def place(self, b, *ends):
        bow, stern = ends[:2], ends[2:]
        heading = minus(bow, stern)
        across, ahead = cross(heading, self.wind), dot(heading, self.wind)
        before = self.boats.get(b)
        port = int(across > 0) if across else (before[2] if before else 0)
        close = ahead > 0 and self.q * abs(across) < self.p * ahead
        tacking = int(bool(close and before and (before[3] or before[2] != port)))
        self.boats[b] = (bow, stern, port, tacking)
        self.tell_rooms()
        return [port, tacking]

    def moved(self, change, other_tack):
        self.wind, self.mark = change(*self.wind), change(*self.mark)
        for b, boat in self.boats.items():
            self.boats[b] = (change(*boat[0]), change(*boat[1]), boat[2] ^ other_tack, boat[3])
        return [0]

    def exchange(self, a, b):
        self.boats[a], self.boats[b] = self.boats[b], self.boats[a]
        new = {**{c: c for c in range(8)}, a: b, b: a}
        self.rooms = {(new[c], new[d]) for c, d in self.rooms}
        return [0]

    def wrong(self, numbers):
        if not all(0 <= number <= 7 for number in numbers):
            return [-1]
        if len(numbers) == 2 and numbers[0] == numbers[1]:
            return [-2]
        return [] if all(number in self.boats for number in numbers) else [-4]

    def answer(self, call):
        number, rest = call[0], call[1:]
        if number == 16 and any(abs(speed) > 1000 for speed in rest[2:]):
            return [-1]
        if number in (10, 12, 13, 16, 19) and self.wrong(rest[:2]):
            return self.wrong(rest[:2])
        return getattr(self, "call_%d" % number)(*rest)

    def call_0(self, count, *text):
        self.rules = bytes(text).decode().splitlines()
        return [len(self.rules)]

    def call_7(self, x, y, p, q):
        if (x, y) == (0, 0):
            return [-1]
        self.wind, self.p, self.q, self.boats, self.rooms = (x, y), p, q, {}, set()
        return [0]

    def call_8(self, x, y, z):
        if z < 0:
            return [-1]
        self.mark, self.zone, self.rooms = (x, y), z, set()
        self.tell_rooms()
        return [0]

    def call_9(self, b, *ends):
        if not 0 <= b <= 7 or any(abs(number) > FAR for number in ends):
            return [-1]
        return [-3] if ends[:2] == ends[2:] else self.place(b, *ends)

    def call_10(self, b):
        self.boats.pop(b)
        self.tell_rooms()
        return [0]

    def call_11(self):
        rows = [[b, *boat[0], *boat[1], *boat[2:]] for b, boat in sorted(self.boats.items())]
        return [len(rows)] + sum(rows, [])

    def call_12(self, a, b):
        return self.sit(a, b)

    def call_13(self, a, b):
        return verdict(self.rules, tuple(self.sit(a, b)))

    def call_14(self):
        return [len(self.rooms)] + [part for room in sorted(self.rooms, key=sorted) for part in room]

    def call_15(self):
        return self.ring()

    def call_16(self, a, b, *speeds):
        return first_by_trying(self.boats[a][:2], self.boats[b][:2], speeds[:2], speeds[2:])

    def call_17(self):
        return self.moved(lambda x, y: (-x, y), 1)

    def call_18(self):
        return self.moved(lambda x, y: (-y, x), 0)

    def call_19(self, a, b):
        return self.exchange(a, b)


RULES = (
    SAILING,
    "rule a when astern\n",
    "rule a when room other.port\nrule b when astern\nrule c when overlapped windward\n",
    "rule a when port other.port\nrule b when ahead not tacking\nrule c when other.room\n",
    "rule a when tacking\nrule b when windward not other.port\nrule c when leeward other.port\n",
    "rule a when opposite astern\nrule b when leeward not room\n",
)


def some_call(source, boats, size, length):
    """One call; most ask for boats that may be there, some are wrong."""
    def boat():
        return source.choice((-1, 8)) if source.random() < 0.02 else source.randrange(boats)

    def spot():
        return (source.randint(-size, size), source.randint(-size, size))

    def placing():
        bow = spot()
        stern = (bow[0] + source.randint(-length, length), bow[1] + source.randint(-length, length))
        return place(boat(), bow, stern)

    makers = (
        (12, placing),
        (2, lambda: away(boat())),
        (2, lambda: BOATS),
        (4, lambda: sit(boat(), boat())),
        (4, lambda: who(boat(), boat())),
        (3, lambda: ROOMS),
        (2, lambda: RING),
        (2, lambda: contact(boat(), boat(), spot(), source.choice((spot(), (0, 0), (1001, 0))))),
        (1, lambda: MIRROR),
        (1, lambda: TURN),
        (3, lambda: exchange(boat(), boat())),
        (1, lambda: mark(*spot(), source.randint(-1, size))),
        (1, lambda: load(source.choice(RULES))),
    )
    return source.choices([maker for weight, maker in makers], [weight for weight, maker in makers])[0]()


class AgainstTheModel(unittest.TestCase):
    def held(self, calls):
        model = Model()
        expected = [model.answer(call) for call in calls]
        for number, (found, wanted) in enumerate(zip(told(*calls), expected)):
            self.assertEqual(found, wanted, (calls[number], calls[:number]))

    def lines(self, seed, count, boats, size, length=2):
        source = random.Random(seed)
        for line in range(count):
            begin = [load(source.choice(RULES)), mark(source.randint(-2, 2), 0, source.randint(0, size))]
            if source.random() < 0.6:
                begin.append(wind(source.randint(-2, 2), source.randint(-2, 2), source.randint(0, 3), source.randint(1, 3)))
            self.held(begin + [some_call(source, boats, size, length) for call in range(120)])

    def test_two_boats(self):
        self.lines(2, 8, 2, 4)

    def test_four_boats(self):
        self.lines(4, 15, 4, 6)

    def test_five_boats_on_little_water(self):
        self.lines(5, 10, 5, 2)

    def test_eight_boats(self):
        self.lines(8, 6, 8, 12)

    def test_far_away(self):
        self.lines(9, 6, 4, FAR, FAR)


LINES = (
    [load(SAILING), mark(0, 0, 50), east(0, 0), east(1, 15), west(2, 30), ROOMS, RING, who(0, 1), who(2, 1)],
    [ROOMS, BOATS, RING, TEXT, sit(0, 1), place(0, (0, 1)), place(0, (-1, 2)), contact(0, 1), GAPS],
    [wind(3, 4, 2, 1), TURN, MIRROR, east(0, 0), west(1, 0), exchange(0, 1), BOATS, sit(0, 1), WEIGHTS],
    [load("rule all when"), east(5, 0), east(7, 0), RING, DOUBLES, away(5), RING, decide(383), alike(SAILING)],
)


def joined(calls):
    return [number for call in calls for number in call]


class Lists(unittest.TestCase):
    def test_one_behind_another_as_if_alone(self):
        alone = [answers(joined(line)) for line in LINES]
        for first, second in itertools.permutations(range(len(LINES)), 2):
            self.assertEqual(answers(joined(LINES[first])), alone[first])
            self.assertEqual(answers(joined(LINES[second])), alone[second])

    def test_the_second_of_two_finds_nothing_of_the_first(self):
        answers(joined(LINES[0]))
        self.assertEqual(
            told(ROOMS, BOATS, RING, TEXT, sit(0, 1), place(0, (0, 1)), place(0, (-1, 2)), contact(0, 1)),
            [[0], [0], [0], [0], [-4], [0, 0], [0, 0], [-4]],
        )

    def test_what_is_handed_in_stays(self):
        for line in LINES:
            calls = joined(line)
            copy = list(calls)
            answers(calls)
            self.assertEqual(calls, copy)

    def test_calls_of_both_kinds_in_one_line(self):
        # Rules loaded and refused between calls on the water, and the other way round.
        calls = (
            east(0, 0), west(1, 5), who(0, 1), load("rule a when port\n"), who(0, 1), alike("rule b when not port\n"),
            who(0, 1), MIRROR, who(0, 1), load("rule\n"), who(1, 0), decide(192), exchange(0, 1), who(0, 1), TEXT,
        )
        self.assertEqual(
            told(*calls),
            [[1, 0], [0, 0], [0], [1], [1, 0], [0, 0, 0, 0, 0, 1, 0, 0, 0], [1, 0], [0], [2, 0], [-1001], [1, 0],
             [1, 0, 1, 0, 0, 0, 1, 0, 0, 0], [0], [1, 0], [17] + list(b"rule a when port\n")],
        )

    def test_calls_that_lie_close_in_the_list(self):
        self.assertEqual(
            answers([9, 0, 10, 0, 0, 0, 9, 1, 40, 5, 40, -5, 16, 0, 1, 3, 0, 0, 0, 11, 12, 0, 1, 13, 1, 0, 14, 15, 17, 18,
                     19, 0, 1, 10, 1, 11]),
            [2, 1, 0, 2, 0, 0, 3, 1, 10, 1, 15, 2, 0, 10, 0, 0, 0, 1, 0, 1, 40, 5, 40, -5, 0, 0,
             8, 1, 0, 0, 0, 3, 1, 0, 0, 1, 0, 1, 0, 1, 0, 1, 0, 1, 0, 1, 0, 1, 0, 8, 1, 0, -5, -40, 5, -40, 1, 0],
        )


if __name__ == "__main__":
    unittest.main()
