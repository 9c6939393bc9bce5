"""Promises 7 to 9: wind, mark and place, as far as their own answers tell."""

import unittest

from tests.lines import (
    BEFORE_WIND, CLOSE_PORT, CLOSE_STARBOARD, ENDS, FAR, INTO_WIND, PORT, STARBOARD, last, mark, place, told, wind,
)


class Tack(unittest.TestCase):
    def test_each_tack(self):
        for bow in ((1, 0), (1, 1), (1, -1), (5, 4), (1, 100), (1, -100), (FAR, FAR)):
            self.assertEqual(told(place(0, bow)), [[1, 0]])
            self.assertEqual(told(place(0, (-bow[0], bow[1]))), [[0, 0]])

    def test_the_heading_is_the_bow_less_the_stern(self):
        self.assertEqual(told(place(3, (10, 10), (9, 10)), place(4, (-10, 10), (-9, 10))), [[1, 0], [0, 0]])
        self.assertEqual(told(place(3, (-7, 0), (-9, 10)), place(4, (7, 0), (9, 10))), [[1, 0], [0, 0]])
        self.assertEqual(told(place(0, (0, 0), (1, 0)), place(1, (0, 0), (-1, 0))), [[0, 0], [1, 0]])

    def test_straight_to_or_from_the_wind_when_it_was_not_there(self):
        self.assertEqual(told(place(0, INTO_WIND), place(1, BEFORE_WIND)), [[0, 0], [0, 0]])
        # Another boat's tack is no matter.
        self.assertEqual(told(place(0, PORT), place(1, INTO_WIND)), [[1, 0], [0, 0]])

    def test_straight_to_or_from_the_wind_when_it_was_there(self):
        for bow in (INTO_WIND, BEFORE_WIND, (0, FAR)):
            self.assertEqual(told(place(0, PORT), place(0, bow)), [[1, 0], [1, 0]])
            self.assertEqual(told(place(0, STARBOARD), place(0, bow)), [[0, 0], [0, 0]])

    def test_the_tack_is_kept_over_several_placings(self):
        self.assertEqual(
            told(place(0, PORT), place(0, INTO_WIND), place(0, BEFORE_WIND), place(0, STARBOARD), place(0, INTO_WIND)),
            [[1, 0], [1, 0], [1, 0], [0, 0], [0, 0]],
        )

    def test_by_another_wind(self):
        self.assertEqual(told(wind(1, 0), place(0, (0, 1)), place(1, (0, -1))), [[0], [0, 0], [1, 0]])
        self.assertEqual(told(wind(0, -1), place(0, PORT), place(1, STARBOARD)), [[0], [0, 0], [1, 0]])
        self.assertEqual(told(wind(3, 4), place(0, (3, 3)), place(1, (3, 5)), place(2, (6, 8))), [[0], [1, 0], [0, 0], [0, 0]])


class Tacking(unittest.TestCase):
    def test_through_the_wind(self):
        self.assertEqual(told(place(0, PORT), place(0, CLOSE_STARBOARD)), [[1, 0], [0, 1]])
        self.assertEqual(told(place(0, STARBOARD), place(0, CLOSE_PORT)), [[0, 0], [1, 1]])

    def test_not_when_it_was_not_there(self):
        self.assertEqual(told(place(0, CLOSE_PORT), place(1, CLOSE_STARBOARD)), [[1, 0], [0, 0]])
        self.assertEqual(told(place(0, PORT), place(1, CLOSE_STARBOARD)), [[1, 0], [0, 0]])

    def test_not_when_it_stays_on_its_tack(self):
        self.assertEqual(told(place(0, PORT), place(0, CLOSE_PORT)), [[1, 0], [1, 0]])
        self.assertEqual(told(place(0, STARBOARD), place(0, CLOSE_STARBOARD)), [[0, 0], [0, 0]])
        self.assertEqual(told(place(0, PORT), place(0, INTO_WIND)), [[1, 0], [1, 0]])

    def test_from_one_close_heading_to_the_other(self):
        self.assertEqual(told(place(0, CLOSE_PORT), place(0, CLOSE_STARBOARD)), [[1, 0], [0, 1]])

    def test_not_when_it_falls_off_far_enough(self):
        self.assertEqual(told(place(0, PORT), place(0, STARBOARD)), [[1, 0], [0, 0]])
        self.assertEqual(told(place(0, PORT), place(0, (-1, -2))), [[1, 0], [0, 0]])

    def test_placed_again_while_tacking(self):
        start = (place(0, PORT), place(0, CLOSE_STARBOARD))
        self.assertEqual(last(*start, place(0, CLOSE_STARBOARD)), [0, 1])
        self.assertEqual(last(*start, place(0, INTO_WIND)), [0, 1])
        self.assertEqual(last(*start, place(0, CLOSE_PORT)), [1, 1])
        self.assertEqual(last(*start, place(0, (-1, 1))), [0, 0])
        self.assertEqual(last(*start, place(0, BEFORE_WIND)), [0, 0])

    def test_tacking_ends_and_does_not_come_back_on_the_same_tack(self):
        self.assertEqual(
            told(place(0, PORT), place(0, CLOSE_STARBOARD), place(0, (-1, 1)), place(0, CLOSE_STARBOARD))[2:],
            [[0, 0], [0, 0]],
        )

    def test_just_close_enough(self):
        # At the beginning p and q are 1: as much across as ahead isn't too close.
        self.assertEqual(last(place(0, PORT), place(0, (-1, 1))), [0, 0])
        self.assertEqual(last(place(0, PORT), place(0, (-999, 1000))), [0, 1])
        self.assertEqual(last(place(0, PORT), place(0, (-1000, 999))), [0, 0])

    def test_p_and_q(self):
        # p 1 and q 2: too close if twice what is across is less than what is ahead.
        self.assertEqual(last(wind(0, 1, 1, 2), place(0, PORT), place(0, (-1, 2))), [0, 0])
        self.assertEqual(last(wind(0, 1, 1, 2), place(0, PORT), place(0, (-1, 3))), [0, 1])
        self.assertEqual(last(wind(0, 1, 2, 1), place(0, PORT), place(0, (-2, 1))), [0, 0])
        self.assertEqual(last(wind(0, 1, 2, 1), place(0, PORT), place(0, (-3, 2))), [0, 1])
        self.assertEqual(last(wind(0, 1, 1000, 1), place(0, PORT), place(0, (-999, 1))), [0, 1])
        self.assertEqual(last(wind(0, 1, 1, 1000), place(0, PORT), place(0, (-1, 1000))), [0, 0])

    def test_p_of_0(self):
        self.assertEqual(last(wind(0, 1, 0, 1), place(0, PORT), place(0, (-1, FAR))), [0, 0])

    def test_never_with_the_wind_from_abeam_or_behind(self):
        self.assertEqual(last(wind(0, 1, 1000, 1), place(0, PORT), place(0, (-1, 0))), [0, 0])
        self.assertEqual(last(wind(0, 1, 1000, 1), place(0, PORT), place(0, (-1, -1))), [0, 0])

    def test_by_another_wind(self):
        self.assertEqual(told(wind(-3, 4), place(0, (0, -1)), place(0, (0, 1)))[1:], [[0, 0], [1, 1]])
        self.assertEqual(told(wind(-3, 4), place(0, (1, 0)), place(0, (-5, 8)))[1:], [[1, 0], [1, 0]])
        self.assertEqual(told(wind(-3, 4), place(0, (1, 0)), place(0, (-7, 6)))[1:], [[1, 0], [0, 1]])


class Wind(unittest.TestCase):
    def test_ranges(self):
        for numbers in ((1000, 1000, 1000, 1000), (-1000, -1000, 0, 1), (0, 1, 0, 1), (1, 0, 1000, 1000), (0, -1, 1, 1)):
            self.assertEqual(told([7] + list(numbers)), [[0]])

    def test_boats_are_gone(self):
        self.assertEqual(told(place(0, PORT), wind(0, 1), place(0, INTO_WIND)), [[1, 0], [0], [0, 0]])
        self.assertEqual(told(place(0, PORT), wind(0, 1), place(0, CLOSE_STARBOARD)), [[1, 0], [0], [0, 0]])
        self.assertEqual(
            told(place(7, PORT), place(7, CLOSE_STARBOARD), wind(0, 1), place(7, CLOSE_STARBOARD)),
            [[1, 0], [0, 1], [0], [0, 0]],
        )

    def test_refusals_change_nothing(self):
        wrong = [(0, 0, 1, 1)]
        for number in (1001, -1001) + ENDS:
            wrong += [(number, 1, 1, 1), (1, number, 1, 1)]
        for number in (-1, 1001) + ENDS:
            wrong.append((1, 0, number, 1))
        for number in (0, -1, 1001) + ENDS:
            wrong.append((1, 0, 1, number))
        for numbers in wrong:
            # Boat 0 is there still, and the wind, p and q are as they were.
            self.assertEqual(
                told(wind(0, 1, 1, 2), place(0, PORT), [7] + list(numbers), place(0, INTO_WIND), place(0, (-1, 3)),
                     place(0, (-1, 2)))[2:],
                [[-1], [1, 0], [0, 1], [0, 0]],
                numbers,
            )


class Mark(unittest.TestCase):
    def test_ranges(self):
        for numbers in ((0, 0, 0), (FAR, FAR, FAR), (-FAR, -FAR, 0), (1, -1, 1)):
            self.assertEqual(told(mark(*numbers)), [[0]])

    def test_boats_stay(self):
        self.assertEqual(told(place(0, PORT), mark(5, 5, 5), place(0, INTO_WIND)), [[1, 0], [0], [1, 0]])

    def test_refusals(self):
        wrong = []
        for number in (FAR + 1, -FAR - 1) + ENDS:
            wrong += [(number, 0, 1), (0, number, 1)]
        for number in (-1, FAR + 1) + ENDS:
            wrong.append((0, 0, number))
        for numbers in wrong:
            self.assertEqual(
                told(place(0, PORT), mark(*numbers), place(0, INTO_WIND)),
                [[1, 0], [-1], [1, 0]],
                numbers,
            )


class Place(unittest.TestCase):
    def test_ranges(self):
        for number in range(8):
            self.assertEqual(told(place(number, (FAR, FAR), (-FAR, -FAR))), [[1, 0]])
            self.assertEqual(told(place(number, (-FAR, FAR), (FAR, -FAR))), [[0, 0]])

    def test_boats_are_apart(self):
        calls = [place(number, PORT if number % 2 else STARBOARD) for number in range(8)]
        again = [place(number, INTO_WIND) for number in range(8)]
        self.assertEqual(told(*(calls + again)), [[number % 2, 0] for number in range(8)] * 2)

    def test_refusals_change_nothing(self):
        wrong = []
        for number in (-1, 8) + ENDS:
            wrong.append(([9, number, -1, 0, 0, 0], -1))
            # What is out of range is looked at before bow and stern.
            wrong.append(([9, number, 3, 3, 3, 3], -1))
        for number in (FAR + 1, -FAR - 1) + ENDS:
            for part in range(2, 6):
                call = [9, 0, -1, 0, 0, 0]
                call[part] = number
                wrong.append((call, -1))
            wrong.append(([9, 0, number, number, number, number], -1))
        for spot in ((0, 0), (3, -3), (FAR, -FAR)):
            wrong.append((place(0, spot, spot), -3))
        for call, number in wrong:
            self.assertEqual(
                told(place(0, PORT), place(1, STARBOARD), call, place(0, INTO_WIND), place(1, INTO_WIND)),
                [[1, 0], [0, 0], [number], [1, 0], [0, 0]],
                call,
            )

    def test_a_refused_boat_is_not_there(self):
        self.assertEqual(told(place(0, (2, 2), (2, 2)), place(0, CLOSE_PORT)), [[-3], [1, 0]])
        self.assertEqual(told([9, 0, -FAR - 1, 0, 0, 0], place(0, CLOSE_PORT)), [[-1], [1, 0]])


if __name__ == "__main__":
    unittest.main()
