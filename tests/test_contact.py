"""Promise 16: contact."""

import random
import unittest
from fractions import Fraction

from tests.lines import BOATS, ENDS, FAR, MIRROR, TURN, contact, last, place, told, wind, wrong_pairs


def touching(boat, other, speed, other_speed=(0, 0)):
    """The answer for two boats, each told as its bow and stern."""
    return last(place(0, *boat), place(1, *other), contact(0, 1, speed, other_speed))


def side(start, end, spot):
    return (end[0] - start[0]) * (spot[1] - start[1]) - (end[1] - start[1]) * (spot[0] - start[0])


def is_on(start, end, spot):
    return side(start, end, spot) == 0 and all(
        min(start[part], end[part]) <= spot[part] <= max(start[part], end[part]) for part in (0, 1)
    )


def meet(hull, other):
    """Whether two straight lines have a place in common."""
    if any(is_on(*hull, spot) for spot in other) or any(is_on(*other, spot) for spot in hull):
        return True
    return (
        side(*hull, other[0]) * side(*hull, other[1]) < 0 and side(*other, hull[0]) * side(*other, hull[1]) < 0
    )


def moved(hull, speed, moment):
    return tuple((spot[0] + speed[0] * moment, spot[1] + speed[1] * moment) for spot in hull)


def moments_when_an_end_meets(ends, hull, speed):
    """Moments at which one of the ends, which move so, is in line with the hull, or abreast of one of its ends."""
    for end in ends:
        now = side(*hull, end)
        change = side(*hull, (end[0] + speed[0], end[1] + speed[1])) - now
        if change != 0:
            yield Fraction(-now, change)
        for spot in hull:
            for part in (0, 1):
                if speed[part] != 0:
                    yield Fraction(spot[part] - end[part], speed[part])


def first_by_trying(hull, other, speed, other_speed):
    """The answer, found by trying every moment at which a contact could begin."""
    seen = (speed[0] - other_speed[0], speed[1] - other_speed[1])
    back = (-seen[0], -seen[1])
    moments = {Fraction(0)}
    moments.update(moments_when_an_end_meets(hull, other, seen))
    moments.update(moments_when_an_end_meets(other, hull, back))
    for moment in sorted(moments):
        if moment >= 0 and meet(moved(hull, seen, moment), other):
            return [1, moment.numerator, moment.denominator]
    return [0]


FLAT = ((10, 0), (0, 0))
UPRIGHT = ((0, 5), (0, -5))


class Now(unittest.TestCase):
    def test_crossing(self):
        self.assertEqual(touching(((5, 0), (-5, 0)), UPRIGHT, (0, 0)), [1, 0, 1])
        self.assertEqual(touching(((5, 0), (-5, 0)), UPRIGHT, (7, 3), (-2, 5)), [1, 0, 1])
        self.assertEqual(touching(((3, 4), (-3, -2)), ((3, -4), (-2, 4)), (1, 1)), [1, 0, 1])

    def test_an_end_on_the_other_hull(self):
        self.assertEqual(touching(((0, 2), (9, 9)), UPRIGHT, (5, 0)), [1, 0, 1])
        self.assertEqual(touching(((9, 9), (0, 2)), UPRIGHT, (5, 0)), [1, 0, 1])

    def test_ends_in_one_place(self):
        self.assertEqual(touching(FLAT, ((3, 3), (10, 0)), (-1, -1)), [1, 0, 1])
        self.assertEqual(touching(FLAT, ((0, 0), (-7, 0)), (1, 0)), [1, 0, 1])
        self.assertEqual(touching(FLAT, FLAT, (1, 1)), [1, 0, 1])
        self.assertEqual(touching(FLAT, (FLAT[1], FLAT[0]), (1, 1)), [1, 0, 1])

    def test_one_within_the_other_in_one_line(self):
        self.assertEqual(touching(FLAT, ((3, 0), (6, 0)), (0, 9)), [1, 0, 1])
        self.assertEqual(touching(((3, 0), (6, 0)), FLAT, (0, 9)), [1, 0, 1])


class Whole(unittest.TestCase):
    def test_straight_on(self):
        self.assertEqual(touching(FLAT, ((30, 5), (30, -5)), (1, 0)), [1, 20, 1])
        self.assertEqual(touching(FLAT, ((30, 5), (30, -5)), (4, 0)), [1, 5, 1])
        self.assertEqual(touching(FLAT, ((30, 5), (30, -5)), (0, 0), (-4, 0)), [1, 5, 1])
        self.assertEqual(touching(FLAT, ((30, 5), (30, -5)), (3, 7), (-1, 7)), [1, 5, 1])

    def test_ends_just_touch(self):
        self.assertEqual(touching(FLAT, ((30, 0), (30, -5)), (1, 0)), [1, 20, 1])
        self.assertEqual(touching(FLAT, ((30, -1), (30, -5)), (1, 0)), [0])
        self.assertEqual(touching(FLAT, ((30, 10), (40, 30)), (2, 1)), [1, 10, 1])

    def test_the_others_end_meets_the_hull(self):
        self.assertEqual(touching(UPRIGHT, ((20, 1), (30, 2)), (2, 0)), [1, 10, 1])
        self.assertEqual(touching(((20, 1), (30, 2)), UPRIGHT, (-2, 0)), [1, 10, 1])

    def test_side_by_side(self):
        self.assertEqual(touching(FLAT, ((12, 6), (5, 6)), (0, 2)), [1, 3, 1])
        self.assertEqual(touching(FLAT, ((5, 6), (12, 6)), (0, 2)), [1, 3, 1])
        self.assertEqual(touching(FLAT, ((20, 6), (30, 6)), (5, 3)), [1, 2, 1])
        self.assertEqual(touching(FLAT, ((21, 6), (30, 6)), (5, 3)), [0])
        self.assertEqual(touching(FLAT, ((30, 6), (20, 6)), (5, 3)), [1, 2, 1])

    def test_far_away(self):
        self.assertEqual(touching(((1 - FAR, -FAR), (-FAR, -FAR)), ((FAR, FAR), (FAR, -FAR)), (1, 0)), [1, 2 * FAR - 1, 1])


class Parts(unittest.TestCase):
    def test_least_terms(self):
        self.assertEqual(touching(FLAT, ((30, 5), (30, -5)), (3, 0)), [1, 20, 3])
        self.assertEqual(touching(FLAT, ((30, 5), (30, -5)), (8, 0)), [1, 5, 2])
        self.assertEqual(touching(FLAT, ((30, 5), (30, -5)), (40, 0)), [1, 1, 2])
        self.assertEqual(touching(FLAT, ((30, 5), (30, -5)), (1000, 0), (-1000, 0)), [1, 1, 100])

    def test_by_a_slanting_hull(self):
        # The line through 20 0 and 30 7 has y = 7 (x - 20) / 10; the bow goes along y = 3.
        self.assertEqual(touching(((10, 3), (0, 3)), ((20, 0), (30, 7)), (1, 0)), [1, 100, 7])
        self.assertEqual(touching(((10, 3), (0, 3)), ((20, 0), (30, 7)), (-1, 0)), [0])

    def test_from_either_side(self):
        for hull, other, speed in ((FLAT, ((30, 9), (29, -5)), (3, 1)), (UPRIGHT, ((17, 1), (30, 2)), (2, 0))):
            calls = (place(3, *hull), place(2, *other))
            back = (-speed[0], -speed[1])
            found = told(
                *calls, contact(3, 2, speed), contact(2, 3, (0, 0), speed), contact(2, 3, back), contact(3, 2, (0, 0), back),
            )[2:]
            self.assertEqual(found[0][0], 1)
            self.assertGreater(found[0][2], 1)
            self.assertEqual(found, found[:1] * 4)


class Never(unittest.TestCase):
    def test_going_away(self):
        self.assertEqual(touching(FLAT, ((30, 5), (30, -5)), (-1, 0)), [0])
        self.assertEqual(touching(FLAT, ((30, 5), (30, -5)), (1, 0), (2, 0)), [0])

    def test_going_by(self):
        self.assertEqual(touching(FLAT, ((30, 5), (30, 1)), (1, 0)), [0])
        self.assertEqual(touching(FLAT, ((30, 5), (30, 1)), (500, -1)), [0])
        self.assertEqual(touching(FLAT, ((0, 3), (10, 3)), (9, 0)), [0])

    def test_one_touches_the_others_line_beside_its_hull(self):
        self.assertEqual(touching(FLAT, ((30, 3), (20, 1)), (1, 0)), [0])


class NeitherMovesAgainstTheOther(unittest.TestCase):
    def test_apart(self):
        for other in (((30, 5), (30, -5)), ((30, 0), (40, 0)), ((0, 1), (10, 1)), ((1, 1), (9, 2))):
            for speed in ((0, 0), (5, -7), (1000, -1000)):
                self.assertEqual(touching(FLAT, other, speed, speed), [0])

    def test_together(self):
        for other in (((5, 5), (5, -5)), ((10, 0), (40, 0)), ((0, 0), (10, 1)), ((1, 0), (9, 0))):
            for speed in ((0, 0), (5, -7), (1000, -1000)):
                self.assertEqual(touching(FLAT, other, speed, speed), [1, 0, 1])


class InOneLine(unittest.TestCase):
    def test_towards_each_other(self):
        for other in (((40, 0), (31, 0)), ((31, 0), (40, 0))):
            self.assertEqual(touching(FLAT, other, (1, 0)), [1, 21, 1])
            self.assertEqual(touching(FLAT, other, (1, 0), (-1, 0)), [1, 21, 2])
            self.assertEqual(touching((FLAT[1], FLAT[0]), other, (3, 5), (-1, 5)), [1, 21, 4])

    def test_away_and_off(self):
        for other in (((40, 0), (31, 0)), ((31, 0), (40, 0))):
            self.assertEqual(touching(FLAT, other, (-1, 0)), [0])
            self.assertEqual(touching(FLAT, other, (0, 1)), [0])
            self.assertEqual(touching(FLAT, other, (5, 1)), [0])

    def test_on_a_slant(self):
        self.assertEqual(touching(((3, 6), (1, 2)), ((10, 20), (9, 18)), (1, 2)), [1, 6, 1])
        self.assertEqual(touching(((10, 20), (9, 18)), ((3, 6), (1, 2)), (-4, -8)), [1, 3, 2])
        self.assertEqual(touching(((3, 6), (1, 2)), ((10, 20), (9, 18)), (2, 1)), [0])


class Refusals(unittest.TestCase):
    def test_speeds(self):
        start = (place(0, *FLAT), place(1, (30, 5), (30, -5)))
        for part in range(3, 7):
            for number in (1001, -1001) + ENDS:
                call = contact(0, 1, (1, 0))
                call[part] = number
                self.assertEqual(last(*start, call), [-1])
                # They are looked at first, whatever else is wrong.
                self.assertEqual(last(*start, call[:1] + [5, 5] + call[3:]), [-1])
                self.assertEqual(last(*start, call[:1] + [0, 5] + call[3:]), [-1])
                self.assertEqual(last(*start, call[:1] + [8, 0] + call[3:]), [-1])

    def test_speeds_at_the_edge(self):
        start = (place(0, *FLAT), place(1, (30, 5), (30, -5)))
        self.assertEqual(last(*start, contact(0, 1, (1000, 1000), (-1000, 1000))), [1, 1, 100])
        self.assertEqual(last(*start, contact(0, 1, (-1000, -1000), (1000, -1000))), [0])

    def test_boats(self):
        start = (place(3, *FLAT), place(5, *UPRIGHT))
        for a, b, number in wrong_pairs(3, 2):
            self.assertEqual(last(*start, contact(a, b, (1, 0))), [number], (a, b))

    def test_nothing_changes(self):
        start = (place(0, *FLAT), place(1, (30, 5), (30, -5)))
        self.assertEqual(last(*start, contact(0, 1, (9, 9)), BOATS), last(*start, BOATS))


class AgainstTrying(unittest.TestCase):
    def asked(self, source, size, fastest):
        hulls = []
        while len(hulls) < 2:
            spots = tuple((source.randint(-size, size), source.randint(-size, size)) for end in range(2))
            if spots[0] != spots[1]:
                hulls.append(spots)
        speeds = [(source.randint(-fastest, fastest), source.randint(-fastest, fastest)) for boat in range(2)]
        self.assertEqual(
            touching(hulls[0], hulls[1], *speeds), first_by_trying(hulls[0], hulls[1], *speeds), (hulls, speeds),
        )

    def test_near(self):
        source = random.Random(16)
        for turn in range(600):
            self.asked(source, 3, 2)

    def test_further(self):
        source = random.Random(17)
        for turn in range(200):
            self.asked(source, 12, 3)

    def test_far(self):
        source = random.Random(18)
        for turn in range(200):
            self.asked(source, FAR, 1000)

    def test_mirrored_and_turned(self):
        source = random.Random(19)
        for turn in range(50):
            hulls = [((source.randint(0, 9), source.randint(0, 9)), (-1, source.randint(0, 9))) for boat in range(2)]
            x, y = source.randint(-3, 3), source.randint(-3, 3)
            start = (wind(1, 2), place(0, *hulls[0]), place(1, *hulls[1]))
            found = last(*start, contact(0, 1, (x, y)))
            self.assertEqual(last(*start, MIRROR, contact(0, 1, (-x, y))), found)
            self.assertEqual(last(*start, TURN, contact(0, 1, (-y, x))), found)


if __name__ == "__main__":
    unittest.main()
