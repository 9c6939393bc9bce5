"""What place, mark and wind change for later calls: how boats lie, and their rooms."""

import unittest
from fractions import Fraction

from keepclear.geometry import squared_distance
from keepclear.overlaps import lie_of, links_of
from keepclear.state import Water
from keepclear.water import answer_of

from tests.lines import mark, place, wind


def water_behind(*calls):
    water = Water()
    for call in calls:
        answer_of(water, call[0], call[1:])
    return water


def rooms(*calls):
    """Who has room of whom, in order."""
    held = []
    for pair, holder in sorted(water_behind(*calls).rooms.items()):
        held.append((holder, pair[0] + pair[1] - holder))
    return held


def lie(one, another, *calls):
    boats = water_behind(*calls).boats
    return lie_of(boats, links_of(boats), one, another)


def east(number, x, y=0, length=10):
    """A boat that points to the east, on port tack in the wind from 0 1; x, y is its stern."""
    return place(number, (x + length, y), (x, y))


def west(number, x, y=0, length=10):
    """A boat that points to the west, on starboard tack."""
    return place(number, (x - length, y), (x, y))


class Lies(unittest.TestCase):
    def both(self, expected, *calls):
        self.assertEqual((lie(0, 1, *calls), lie(1, 0, *calls)), expected)

    def test_astern_and_ahead(self):
        self.both((1, 2), east(0, 0), east(1, 11))
        self.both((2, 1), east(0, 11), east(1, 0))
        self.both((1, 2), east(0, 0), east(1, 11, 500))

    def test_bow_and_stern_abreast_is_overlapped(self):
        self.both((3, 3), east(0, 0), east(1, 10, 5))
        self.both((3, 3), east(0, 5), east(1, 0, 5))

    def test_on_unlike_tacks(self):
        # Stern to stern each is behind the other, bow to bow none is: neither is clear astern.
        self.both((3, 3), east(0, 1), west(1, -1))
        self.both((3, 3), east(0, -20), west(1, 20))
        self.both((1, 2), east(0, -20), place(1, (-1, 30), (0, 20)))
        self.both((2, 1), place(0, (-1, 30), (0, 20)), east(1, -20))

    def test_behind_needs_both_ends(self):
        # The boat across has its stern behind the line of the other's stern, its bow not.
        self.both((3, 3), east(0, 0), place(1, (1, 5), (-5, 5)))
        # And so the other way round.
        self.both((3, 3), east(0, 0), place(1, (-1, -5), (1, 15)))

    def test_behind_is_below_0(self):
        self.both((3, 3), east(0, 0), place(1, (-5, 1), (0, 5)))
        self.both((2, 1), east(0, 0, 0, 1), place(1, (-5, -10), (-1, 5)))
        self.both((3, 3), east(0, -1, 0, 1), east(1, 0, 0, 1))
        self.both((1, 2), east(0, -2, 0, 1), east(1, 0, 0, 1))

    def test_overlapped_through_another_boat(self):
        apart = (east(0, 0), east(1, 15))
        self.both((1, 2), *apart)
        self.both((3, 3), *apart, east(2, 8, 5))
        # A boat on the other tack links nobody.
        self.both((1, 2), *apart, west(2, 18, 5))

    def test_overlapped_through_several_boats(self):
        row = (east(0, 0), east(1, 40), east(5, 9), east(3, 18), east(4, 27))
        self.both((1, 2), *row)
        self.both((3, 3), *row, east(2, 36))
        self.both((3, 3), *reversed(row), east(2, 36))

    def test_links_end_when_the_boat_between_goes(self):
        self.both((1, 2), east(0, 0), east(1, 15), east(2, 8, 5), east(2, 8000))


class Distance(unittest.TestCase):
    def test_to_the_ends_and_between(self):
        for spot, square in (((-3, 4), 25), ((13, 4), 25), ((0, 7), 49), ((10, 7), 49), ((5, -6), 36), ((5, 0), 0)):
            for ends in (((0, 0), (10, 0)), ((10, 0), (0, 0))):
                self.assertEqual(Fraction(*squared_distance(spot, *ends)), square)

    def test_fractions(self):
        self.assertEqual(Fraction(*squared_distance((1, 0), (0, 0), (1, 1))), Fraction(1, 2))
        self.assertEqual(Fraction(*squared_distance((1, 1), (0, 0), (3, 1))), Fraction(4, 10))


class Rooms(unittest.TestCase):
    def test_none_without_a_zone(self):
        self.assertEqual(rooms(east(0, 0), east(1, 11)), [])
        self.assertEqual(rooms(mark(5, 0, 0), east(0, 0), east(1, 11)), [])

    def test_the_one_ahead(self):
        self.assertEqual(rooms(mark(0, 0, 100), east(0, 0), east(1, 11)), [(1, 0)])
        self.assertEqual(rooms(mark(0, 0, 100), east(1, 0), east(0, 11)), [(0, 1)])

    def test_overlapped_the_nearer_one(self):
        self.assertEqual(rooms(mark(0, 0, 100), east(0, 0, 9), east(1, 3, 8)), [(1, 0)])
        self.assertEqual(rooms(mark(0, 0, 100), east(0, 0, 8), east(1, 3, 9)), [(0, 1)])

    def test_overlapped_and_as_near_the_lesser_number(self):
        self.assertEqual(rooms(mark(5, 0, 100), east(4, 0, 9), east(2, 0, -9)), [(2, 4)])
        self.assertEqual(rooms(mark(5, 0, 100), east(2, 0, 9), east(4, 0, -9)), [(2, 4)])

    def test_nearness_is_not_rounded(self):
        # The squares of both distances are 1/2 and 4/10.
        slant = place(0, (1, 1), (0, 0))
        flatter = place(1, (3, 2), (0, 1))
        self.assertEqual(rooms(mark(1, 0, 100), slant, place(1, (3, 0), (0, -1))), [(1, 0)])
        self.assertEqual(rooms(mark(1, 0, 100), slant, flatter), [(0, 1)])

    def test_the_edge_of_the_zone(self):
        self.assertEqual(rooms(mark(-3, 4, 5), east(0, 0), east(1, 11)), [(1, 0)])
        self.assertEqual(rooms(mark(-3, 4, 4), east(0, 0), east(1, 11)), [])
        self.assertEqual(rooms(mark(5, 7, 7), east(0, 0), east(1, 11)), [(1, 0)])
        self.assertEqual(rooms(mark(5, 7, 6), east(0, 0), east(1, 11)), [])

    def test_one_boat_in_the_zone_is_enough(self):
        self.assertEqual(rooms(mark(0, 0, 1), east(0, 0), east(1, 1000)), [(1, 0)])
        self.assertEqual(rooms(mark(0, 0, 1), east(1, 0), east(0, 1000)), [(0, 1)])

    def test_only_pairs_with_a_boat_in_the_zone(self):
        self.assertEqual(rooms(mark(0, 0, 1), east(0, 0), east(1, 1000), east(2, 2000)), [(1, 0), (2, 0)])

    def test_room_is_kept(self):
        self.assertEqual(rooms(mark(0, 0, 100), east(0, 0), east(1, 11), east(0, 50)), [(1, 0)])
        self.assertEqual(rooms(mark(0, 0, 100), east(0, 0), east(1, 11), east(0, 5000)), [(1, 0)])

    def test_room_ends_when_both_have_left_the_zone(self):
        start = (mark(0, 0, 100), east(0, 0), east(1, 11), east(0, 5000))
        self.assertEqual(rooms(*start, east(1, 3000)), [])
        self.assertEqual(rooms(*start, east(1, 3000), east(1, 11)), [(0, 1)])

    def test_setting_the_mark_takes_rooms_away_first(self):
        start = (mark(0, 0, 100), east(0, 0), east(1, 11), east(0, 50))
        self.assertEqual(rooms(*start, mark(0, 0, 100)), [(0, 1)])
        self.assertEqual(rooms(*start, mark(0, 0, 0)), [])
        self.assertEqual(rooms(*start, mark(9000, 0, 10)), [])

    def test_a_mark_set_behind_the_boats(self):
        self.assertEqual(rooms(east(0, 0), east(1, 11), mark(0, 0, 1)), [(1, 0)])

    def test_a_third_boat_does_not_change_a_room_that_is_held(self):
        self.assertEqual(
            rooms(mark(0, 0, 100), east(0, 0), east(1, 15), east(2, 8, 5)),
            [(1, 0), (0, 2), (2, 1)],
        )
        self.assertEqual(
            rooms(east(0, 0), east(1, 15), east(2, 8, 5), mark(0, 0, 100)),
            [(0, 1), (0, 2), (2, 1)],
        )

    def test_wind_takes_boats_and_rooms_away(self):
        start = (mark(0, 0, 100), east(0, 0), east(1, 11), east(0, 50))
        self.assertEqual(rooms(*start, wind(0, 1)), [])
        self.assertEqual(water_behind(*start, wind(0, 1)).boats, {})
        # The mark and its zone stay.
        self.assertEqual(rooms(*start, wind(0, 1), east(0, 50), east(1, 11)), [(0, 1)])

    def test_refusals_leave_rooms_mark_and_zone(self):
        start = (mark(0, 0, 100), east(0, 0), east(1, 11), east(0, 50))
        for call in (mark(0, 0, -1), mark(0, 0, 1000001), mark(1000001, 0, 5), mark(0, -1000001, 5), wind(0, 0),
                     place(0, (1, 1), (1, 1)), place(8, (1, 1)), place(1, (0, 1000001))):
            water = water_behind(*start, call)
            self.assertEqual(water.rooms, {(0, 1): 1})
            self.assertEqual((water.mark, water.zone), ((0, 0), 100))
            self.assertEqual((water.boats[0].bow, water.boats[0].stern), ((60, 0), (50, 0)))
            self.assertEqual(sorted(water.boats), [0, 1])


if __name__ == "__main__":
    unittest.main()
