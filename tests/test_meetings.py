"""Promises 12, 13 and 15: sit, who and ring."""

import itertools
import random
import unittest

from keepclear.rings import ring_told

from tests.lines import (
    CLOSE_STARBOARD, FAR, PORT, RING, SAILING, away, east, exchange, last, load, mark, place, sit, told, west, who, wind,
    wrong_pairs,
)


def from_other(parts):
    return [parts[1], parts[0], parts[3], parts[2], {1: 2, 2: 1, 3: 3}[parts[4]], 1 - parts[5], parts[7], parts[6]]


class Sit(unittest.TestCase):
    def seen(self, parts, *calls):
        self.assertEqual(told(*calls, sit(0, 1), sit(1, 0))[-2:], [parts, from_other(parts)])

    def test_tacks(self):
        self.seen([1, 1, 0, 0, 3, 1, 0, 0], east(0, 0, 5), east(1, 0))
        self.seen([0, 1, 0, 0, 3, 1, 0, 0], west(0, 0, 5), east(1, 0))
        self.seen([1, 0, 0, 0, 3, 1, 0, 0], east(0, 0, 5), west(1, 0))
        self.seen([0, 0, 0, 0, 3, 1, 0, 0], west(0, 0, 5), west(1, 0))

    def test_tacking(self):
        turning = (place(0, PORT), place(0, CLOSE_STARBOARD))
        self.seen([0, 1, 1, 0, 3, 1, 0, 0], *turning, east(1, -5))
        self.seen([0, 0, 1, 1, 3, 1, 0, 0], *turning, place(1, PORT), place(1, CLOSE_STARBOARD))

    def test_how_it_lies(self):
        self.seen([1, 1, 0, 0, 1, 1, 0, 0], east(0, 0), east(1, 11))
        self.seen([1, 1, 0, 0, 2, 1, 0, 0], east(0, 11), east(1, 0))
        self.seen([1, 1, 0, 0, 3, 1, 0, 0], east(0, 10), east(1, 0))

    def test_linked_by_a_boat_between(self):
        self.seen([1, 1, 0, 0, 3, 1, 0, 0], east(0, 0), east(1, 15), east(7, 8))
        self.seen([1, 1, 0, 0, 1, 1, 0, 0], east(0, 0), east(1, 15), west(7, 18))
        self.seen([1, 1, 0, 0, 1, 1, 0, 0], east(0, 0), east(1, 15), east(7, 8), away(7))

    def test_boats_on_unlike_tacks_are_not_linked(self):
        # Each overlaps boat 7, but 0 and 1 are on unlike tacks, and 0 is clear astern.
        apart = (east(0, 0), place(1, (14, 15), (15, 5)), east(7, 8, 5))
        self.assertEqual(last(*apart, sit(7, 0))[4], 3)
        self.assertEqual(last(*apart, sit(7, 1))[4], 3)
        self.seen([1, 0, 0, 0, 1, 0, 0, 0], *apart)

    def test_windward(self):
        self.seen([1, 1, 0, 0, 3, 0, 0, 0], east(0, 0, 4), east(1, 0, 5))
        self.seen([1, 1, 0, 0, 3, 1, 0, 0], east(0, 0, 6), east(1, 0, 5))
        self.seen([0, 0, 0, 0, 3, 0, 0, 0], wind(3, -4), place(0, (1, 4)), place(1, (2, 4)))

    def test_the_middle_is_what_is_windward(self):
        # Boat 0 has the bow that is furthest to windward, and half a step decides between both middles.
        self.seen([0, 1, 0, 0, 3, 0, 0, 0], place(0, (-5, 10), (5, -10)), place(1, (5, 1), (0, 0)))
        self.seen([0, 1, 0, 0, 3, 1, 0, 0], place(0, (-5, 10), (5, -9)), place(1, (5, 1), (0, 0)))
        self.seen([0, 1, 0, 0, 3, 1, 0, 0], place(0, (-5, 11), (5, -9)), place(1, (5, 1), (0, 0)))

    def test_as_far_to_windward_the_lesser_number(self):
        self.seen([0, 1, 0, 0, 3, 1, 0, 0], west(0, 0, 5), east(1, 0, 5))
        self.seen([1, 0, 0, 0, 3, 1, 0, 0], east(0, 0, 5), west(1, 0, 5))
        # One middle only, and in other places on a line across the wind.
        self.seen([1, 0, 0, 0, 3, 1, 0, 0], place(0, (1, 1), (-1, -1)), place(1, (-1, 1), (1, -1)))
        self.seen([1, 0, 0, 0, 3, 1, 0, 0], wind(1, 1), place(0, (5, -4), (4, -3)), place(1, (0, 2), (1, -1)))

    def test_room(self):
        self.seen([1, 1, 0, 0, 1, 1, 0, 1], mark(0, 0, 100), east(0, 0), east(1, 11))
        self.seen([1, 1, 0, 0, 2, 1, 1, 0], mark(0, 0, 100), east(0, 11), east(1, 0))
        self.seen([1, 1, 0, 0, 2, 1, 0, 1], mark(0, 0, 100), east(0, 0), east(1, 11), east(0, 22))
        self.seen([1, 1, 0, 0, 2, 0, 1, 0], mark(0, 0, 100), east(0, 0), east(1, 11), exchange(0, 1), east(1, 0, 1))

    def test_far_places(self):
        self.seen(
            [1, 1, 0, 0, 3, 0, 0, 0],
            wind(-1000, 1000), place(0, (FAR, FAR), (-FAR, -FAR)), place(1, (FAR, FAR), (-FAR, 1 - FAR)),
        )

    def test_refusals(self):
        start = (place(3, PORT), place(5, (0, 1)))
        for a, b, number in wrong_pairs(3, 2):
            self.assertEqual(last(*start, sit(a, b)), [number], (a, b))
            self.assertEqual(last(*start, who(a, b)), [number], (a, b))
        self.assertEqual(told(sit(0, 1), who(6, 7), sit(0, 0), who(8, 8)), [[-4], [-4], [-2], [-1]])


class Who(unittest.TestCase):
    def test_without_rules_nobody(self):
        self.assertEqual(last(east(0, 0), west(1, 0), who(0, 1)), [0])

    def test_it_the_other_both(self):
        start = (load("rule none when tacking\nrule side when opposite port\nrule all when\n"),)
        self.assertEqual(told(*start, east(0, 0), west(1, 0), who(0, 1), who(1, 0))[3:], [[1, 1], [2, 1]])
        self.assertEqual(told(*start, east(0, 0), east(1, 0), who(0, 1), who(1, 0))[3:], [[3, 2], [3, 2]])

    def test_by_the_rules_that_are_loaded_now(self):
        start = (east(0, 0), east(1, 11))
        self.assertEqual(
            told(*start, load("rule a when astern"), who(0, 1), load("rule a when ahead"), who(0, 1), load("x"),
                 who(0, 1), load(""), who(0, 1))[2:],
            [[1], [1, 0], [1], [2, 0], [-1001], [2, 0], [0], [0]],
        )

    def test_the_sailing_rules(self):
        start = (load(SAILING),)
        self.assertEqual(last(*start, east(2, 0), west(6, 5), who(2, 6)), [1, 0])
        self.assertEqual(last(*start, east(2, 0), west(6, 5), who(6, 2)), [2, 0])
        self.assertEqual(last(*start, east(2, 0), east(6, 11), who(2, 6)), [1, 2])
        self.assertEqual(last(*start, east(2, 11), east(6, 0), who(2, 6)), [2, 2])
        self.assertEqual(last(*start, east(2, 0, 1), east(6, 0), who(2, 6)), [1, 3])
        self.assertEqual(last(*start, east(2, 0), east(6, 0, 1), who(2, 6)), [2, 3])
        self.assertEqual(last(*start, place(2, PORT), place(2, CLOSE_STARBOARD), west(6, 5), who(2, 6)), [1, 1])

    def test_each_part_of_the_situation(self):
        turning = (place(0, PORT), place(0, CLOSE_STARBOARD), east(1, 5), mark(0, 0, 1))
        # 0 lies overlapped and to windward on starboard tack, is tacking and has room.
        self.assertEqual(last(*turning, sit(0, 1)), [0, 1, 1, 0, 3, 1, 1, 0])
        for word in ("other.port", "tacking", "windward", "room", "not port", "not leeward", "not other.room"):
            self.assertEqual(last(*turning, load("rule a when " + word), who(0, 1)), [1, 0], word)
            self.assertEqual(last(*turning, load("rule a when " + word), who(1, 0)), [2, 0], word)
        for word in ("port", "other.tacking", "leeward", "other.room", "not tacking"):
            self.assertEqual(last(*turning, load("rule a when " + word), who(0, 1)), [2, 0], word)
        for word in ("astern", "ahead", "not opposite"):
            self.assertEqual(last(*turning, load("rule a when " + word), who(0, 1)), [0], word)
        for word in ("overlapped", "opposite", "not ahead"):
            self.assertEqual(last(*turning, load("rule a when " + word), who(0, 1)), [3, 0], word)


# Boats round a middle, each clear astern of the next, none linked: by this rule each keeps clear of the next.
FOLLOW = load("rule follow when astern")
THREE = (((20, 2), (20, -2)), ((-12, 16), (-9, 18)), ((-9, -18), (-12, -16)))
FOUR = (((20, 2), (20, -2)), ((-2, 20), (2, 20)), ((-20, -2), (-20, 2)), ((2, -20), (-2, -20)))


def row(spots, numbers):
    return [place(number, spot[0], spot[1]) for number, spot in zip(numbers, spots)]


class Ring(unittest.TestCase):
    def ring(self, boats, *calls):
        self.assertEqual(last(*calls, RING), [len(boats)] + boats)

    def test_none(self):
        self.ring([])
        self.ring([], east(0, 0))
        self.ring([], load("rule all when"), east(0, 0))
        # Without rules, and by rules that bring boats in one order.
        self.ring([], *[east(number, 20 * number) for number in range(8)])
        self.ring([], load("rule a when windward"), *[east(number, 0, number) for number in range(8)])
        self.ring([], FOLLOW, *[east(number, 20 * number) for number in range(8)])

    def test_two(self):
        self.ring([2, 5], load("rule all when"), east(5, 0), east(2, 0))
        self.ring([0, 7], load("rule all when"), east(0, 0), east(7, 50))

    def test_several_rings_of_two(self):
        every = load("rule all when")
        self.ring([0, 1], every, *[east(number, number) for number in range(8)])
        self.ring([3, 4], every, *[east(number, number) for number in (7, 4, 6, 3)])
        # Boats on one tack keep clear of each other: 1 of 6, and 2 of 3; 0 only of those on the other tack.
        alike = load("rule same when not opposite not tacking")
        self.ring([1, 6], alike, east(1, 0), west(2, 0), west(3, 0), east(6, 0))
        self.ring([1, 2], load("rule other when opposite"), east(1, 0), west(2, 0), west(3, 0), east(6, 0))

    def test_three(self):
        self.ring([0, 1, 2], FOLLOW, *row(THREE, (0, 1, 2)))
        self.ring([0, 2, 1], FOLLOW, *row(THREE, (0, 2, 1)))
        self.ring([2, 7, 4], FOLLOW, *row(THREE, (7, 4, 2)))
        self.ring([2, 4, 7], FOLLOW, *row(THREE, (4, 7, 2)))

    def test_the_other_way_round(self):
        self.ring([0, 2, 1], load("rule lead when ahead"), *row(THREE, (0, 1, 2)))

    def test_four(self):
        self.ring([0, 1, 2, 3], FOLLOW, *row(FOUR, (0, 1, 2, 3)))
        self.ring([1, 6, 3, 5], FOLLOW, *row(FOUR, (3, 5, 1, 6)))

    def test_a_boat_less_and_the_ring_is_gone(self):
        self.ring([], FOLLOW, *row(THREE, (0, 1, 2)), away(1))
        self.ring([], FOLLOW, *row(FOUR, (0, 1, 2, 3)), away(0))

    def test_the_fewest_boats_before_the_least_number(self):
        # Boats on port tack keep clear of each other, and boat 2 is the one of the three that is on it.
        start = (load("rule both when port other.port\nrule follow when astern"), *row(THREE, (0, 1, 2)))
        self.ring([0, 1, 2], *start)
        self.ring([2, 6], *start, east(6, 500))

    def test_several_rings_of_three(self):
        # Six boats round the middle: each keeps clear of the next two.
        six = (((20, 1), (20, -1)), ((9, 18), (11, 17)), ((-11, 17), (-9, 18)),
               ((-20, -1), (-20, 1)), ((-9, -18), (-11, -17)), ((11, -17), (9, -18)))
        self.ring([0, 2, 4], FOLLOW, *row(six, range(6)))
        self.ring([0, 3, 5], FOLLOW, *row(six, (1, 0, 2, 3, 4, 5)))
        self.ring([0, 1, 2], FOLLOW, *row(six, (0, 4, 1, 5, 2, 3)))

    def test_the_first_by_its_numbers(self):
        # Five boats: each keeps clear of the next two, so 0 1 3, 0 2 3 and 0 2 4 are rings, and those without 0.
        five = (((20, 2), (20, -2)), ((4, 20), (8, 18)), ((-17, 10), (-15, 13)), ((-15, -13), (-17, -10)),
                ((8, -18), (4, -20)))
        self.ring([0, 1, 3], FOLLOW, *row(five, range(5)))
        self.ring([0, 1, 2], FOLLOW, *row(five, (0, 4, 1, 3, 2)))
        self.ring([2, 3, 5], FOLLOW, *row(five, (2, 3, 4, 5, 7)))

    def test_behind_an_exchange(self):
        start = (FOLLOW, *row(THREE, (0, 1, 2)))
        self.ring([0, 2, 1], *start, exchange(1, 2))
        self.ring([0, 1, 2], *start, exchange(1, 2), exchange(0, 1))


def ring_by_trying(clear_of):
    for size in range(2, len(clear_of) + 1):
        # In order, so the first one that is found is the one that is told.
        for boats in itertools.permutations(sorted(clear_of), size):
            if boats[0] == min(boats) and all(b in clear_of[a] for a, b in zip(boats, boats[1:] + boats[:1])):
                return list(boats)
    return []


class RingAgainstTrying(unittest.TestCase):
    def test_some_water(self):
        source = random.Random(15)
        sizes = set()
        for turn in range(400):
            boats = source.sample(range(8), source.randint(1, 7))
            chance = source.choice((0.1, 0.2, 0.4))
            clear_of = {}
            for boat in boats:
                clear_of[boat] = [other for other in boats if other != boat and source.random() < chance]
            expected = ring_by_trying(clear_of)
            self.assertEqual(ring_told(clear_of), expected, clear_of)
            sizes.add(len(expected))
        self.assertLessEqual({0, 2, 3, 4}, sizes)

    def test_one_ring_of_all_eight(self):
        for boats in itertools.islice(itertools.permutations(range(8)), 0, 5040, 97):
            clear_of = {boats[place]: [boats[(place + 1) % 8]] for place in range(8)}
            self.assertEqual(ring_told(clear_of), list(boats))


if __name__ == "__main__":
    unittest.main()
