"""How boats lie, and promise 14, rooms: which are there behind calls that place or take away boats or set the mark."""

import unittest
from fractions import Fraction

from keepclear.geometry import squared_distance

from tests.lines import (
    BOATS, FAR, MIRROR, ROOMS, TURN, away, east, exchange, last, mark, place, sit, told, west, wind,
)


def rooms(*calls):
    """Who has room of whom, in the order that is told."""
    answer = last(*calls, ROOMS)
    held = list(zip(answer[1::2], answer[2::2]))
    assert answer[0] == len(held) and len(answer) == 1 + 2 * len(held), answer
    return held


def lie(one, another, *calls):
    return last(*calls, sit(one, another))[4]


class Lies(unittest.TestCase):
    def both(self, expected, *calls):
        self.assertEqual((lie(0, 1, *calls), lie(1, 0, *calls)), expected)

    def test_astern_and_ahead(self):
        self.both((1, 2), east(0, 0), east(1, 11))
        self.both((2, 1), east(0, 11), east(1, 0))
        self.both((1, 2), east(0, 0), east(1, 11, 500))

    def test_bow_and_stern_abreast_is_overlapped(self):
        self.both((3, 3), east(0, 0), east(1, 10, 5))
        self.both((3, 3), east(0, 5), east(1, 0, 5))

    def test_on_unlike_tacks(self):
        # Stern to stern each is behind the other, bow to bow none is: neither is clear astern.
        self.both((3, 3), east(0, 1), west(1, -1))
        self.both((3, 3), east(0, -20), west(1, 20))
        self.both((1, 2), east(0, -20), place(1, (-1, 30), (0, 20)))
        self.both((2, 1), place(0, (-1, 30), (0, 20)), east(1, -20))

    def test_behind_needs_both_ends(self):
        # The boat across has its stern behind the line of the other's stern, its bow not.
        self.both((3, 3), east(0, 0), place(1, (1, 5), (-5, 5)))
        # And so the other way round.
        self.both((3, 3), east(0, 0), place(1, (-1, -5), (1, 15)))

    def test_behind_is_below_0(self):
        self.both((3, 3), east(0, 0), place(1, (-5, 1), (0, 5)))
        self.both((2, 1), east(0, 0, 0, 1), place(1, (-5, -10), (-1, 5)))
        self.both((3, 3), east(0, -1, 0, 1), east(1, 0, 0, 1))
        self.both((1, 2), east(0, -2, 0, 1), east(1, 0, 0, 1))

    def test_overlapped_through_another_boat(self):
        apart = (east(0, 0), east(1, 15))
        self.both((1, 2), *apart)
        self.both((3, 3), *apart, east(2, 8, 5))
        # A boat on the other tack links nobody.
        self.both((1, 2), *apart, west(2, 18, 5))

    def test_overlapped_through_several_boats(self):
        row = (east(0, 0), east(1, 40), east(5, 9), east(3, 18), east(4, 27))
        self.both((1, 2), *row)
        self.both((3, 3), *row, east(2, 36))
        self.both((3, 3), *reversed(row), east(2, 36))

    def test_links_end_when_the_boat_between_goes(self):
        self.both((1, 2), east(0, 0), east(1, 15), east(2, 8, 5), east(2, 8000))


class Distance(unittest.TestCase):
    def test_to_the_ends_and_between(self):
        for spot, square in (((-3, 4), 25), ((13, 4), 25), ((0, 7), 49), ((10, 7), 49), ((5, -6), 36), ((5, 0), 0)):
            for ends in (((0, 0), (10, 0)), ((10, 0), (0, 0))):
                self.assertEqual(Fraction(*squared_distance(spot, *ends)), square)

    def test_fractions(self):
        self.assertEqual(Fraction(*squared_distance((1, 0), (0, 0), (1, 1))), Fraction(1, 2))
        self.assertEqual(Fraction(*squared_distance((1, 1), (0, 0), (3, 1))), Fraction(4, 10))


class Rooms(unittest.TestCase):
    def test_none_without_a_zone(self):
        self.assertEqual(rooms(east(0, 0), east(1, 11)), [])
        self.assertEqual(rooms(mark(5, 0, 0), east(0, 0), east(1, 11)), [])

    def test_the_one_ahead(self):
        self.assertEqual(rooms(mark(0, 0, 100), east(0, 0), east(1, 11)), [(1, 0)])
        self.assertEqual(rooms(mark(0, 0, 100), east(1, 0), east(0, 11)), [(0, 1)])

    def test_overlapped_the_nearer_one(self):
        self.assertEqual(rooms(mark(0, 0, 100), east(0, 0, 9), east(1, 3, 8)), [(1, 0)])
        self.assertEqual(rooms(mark(0, 0, 100), east(0, 0, 8), east(1, 3, 9)), [(0, 1)])

    def test_overlapped_and_as_near_the_lesser_number(self):
        self.assertEqual(rooms(mark(5, 0, 100), east(4, 0, 9), east(2, 0, -9)), [(2, 4)])
        self.assertEqual(rooms(mark(5, 0, 100), east(2, 0, 9), east(4, 0, -9)), [(2, 4)])

    def test_nearness_is_not_rounded(self):
        # The squares of both distances are 1/2 and 4/10.
        slant = place(0, (1, 1), (0, 0))
        flatter = place(1, (3, 2), (0, 1))
        self.assertEqual(rooms(mark(1, 0, 100), slant, place(1, (3, 0), (0, -1))), [(1, 0)])
        self.assertEqual(rooms(mark(1, 0, 100), slant, flatter), [(0, 1)])

    def test_the_edge_of_the_zone(self):
        self.assertEqual(rooms(mark(-3, 4, 5), east(0, 0), east(1, 11)), [(1, 0)])
        self.assertEqual(rooms(mark(-3, 4, 4), east(0, 0), east(1, 11)), [])
        self.assertEqual(rooms(mark(5, 7, 7), east(0, 0), east(1, 11)), [(1, 0)])
        self.assertEqual(rooms(mark(5, 7, 6), east(0, 0), east(1, 11)), [])

    def test_one_boat_in_the_zone_is_enough(self):
        self.assertEqual(rooms(mark(0, 0, 1), east(0, 0), east(1, 1000)), [(1, 0)])
        self.assertEqual(rooms(mark(0, 0, 1), east(1, 0), east(0, 1000)), [(0, 1)])

    def test_only_pairs_with_a_boat_in_the_zone(self):
        self.assertEqual(rooms(mark(0, 0, 1), east(0, 0), east(1, 1000), east(2, 2000)), [(1, 0), (2, 0)])

    def test_room_is_kept(self):
        self.assertEqual(rooms(mark(0, 0, 100), east(0, 0), east(1, 11), east(0, 50)), [(1, 0)])
        self.assertEqual(rooms(mark(0, 0, 100), east(0, 0), east(1, 11), east(0, 5000)), [(1, 0)])

    def test_room_ends_when_both_have_left_the_zone(self):
        start = (mark(0, 0, 100), east(0, 0), east(1, 11), east(0, 5000))
        self.assertEqual(rooms(*start, east(1, 3000)), [])
        self.assertEqual(rooms(*start, east(1, 3000), east(1, 11)), [(0, 1)])

    def test_setting_the_mark_takes_rooms_away_first(self):
        start = (mark(0, 0, 100), east(0, 0), east(1, 11), east(0, 50))
        self.assertEqual(rooms(*start, mark(0, 0, 100)), [(0, 1)])
        self.assertEqual(rooms(*start, mark(0, 0, 0)), [])
        self.assertEqual(rooms(*start, mark(9000, 0, 10)), [])

    def test_a_mark_set_behind_the_boats(self):
        self.assertEqual(rooms(east(0, 0), east(1, 11), mark(0, 0, 1)), [(1, 0)])

    def test_a_third_boat_does_not_change_a_room_that_is_held(self):
        self.assertEqual(
            rooms(mark(0, 0, 100), east(0, 0), east(1, 15), east(2, 8, 5)),
            [(1, 0), (0, 2), (2, 1)],
        )
        self.assertEqual(
            rooms(east(0, 0), east(1, 15), east(2, 8, 5), mark(0, 0, 100)),
            [(0, 1), (0, 2), (2, 1)],
        )

    def test_wind_takes_boats_and_rooms_away(self):
        start = (mark(0, 0, 100), east(0, 0), east(1, 11), east(0, 50))
        self.assertEqual(rooms(*start, wind(0, 1)), [])
        self.assertEqual(last(*start, wind(0, 1), BOATS), [0])
        # The mark and its zone stay.
        self.assertEqual(rooms(*start, wind(0, 1), east(0, 50), east(1, 11)), [(0, 1)])

    def test_refusals_leave_rooms_mark_and_zone(self):
        start = (mark(0, 0, 100), east(0, 0), east(1, 11), east(0, 50))
        for call in (mark(0, 0, -1), mark(0, 0, 1000001), mark(1000001, 0, 5), mark(0, -1000001, 5), wind(0, 0),
                     place(0, (1, 1), (1, 1)), place(8, (1, 1)), place(1, (0, 1000001))):
            self.assertEqual(
                told(*start, call, BOATS, ROOMS)[-2:],
                [[2, 0, 60, 0, 50, 0, 1, 0, 1, 21, 0, 11, 0, 1, 0], [1, 1, 0]],
            )
            # The mark and its zone are as they were: a boat at the zone's edge is in it, one further away isn't.
            self.assertEqual(rooms(*start, call, east(2, 100, 5000), east(3, 100), away(0), away(1)), [(3, 2)])
            self.assertEqual(rooms(*start, call, east(2, 101, 5000), east(3, 101), away(0), away(1)), [])

    def test_order_is_by_the_pair_not_by_the_holder(self):
        calls = (mark(0, 0, 100), east(7, 30), east(2, 15), east(5, 0))
        self.assertEqual(last(*calls, ROOMS), [3, 2, 5, 7, 2, 7, 5])
        self.assertEqual(rooms(mark(0, 0, 100), east(0, 0), east(1, 15), east(2, 30)), [(1, 0), (2, 0), (2, 1)])

    def test_eight_boats(self):
        row = [east(number, 20 * number) for number in range(8)]
        ahead = [(more, fewer) for fewer in range(8) for more in range(fewer + 1, 8)]
        self.assertEqual(rooms(mark(0, 0, FAR), *row), ahead)
        self.assertEqual(rooms(*row, mark(0, 0, FAR)), ahead)

    def test_no_boats_and_one(self):
        self.assertEqual(last(ROOMS), [0])
        self.assertEqual(last(mark(0, 0, 100), east(0, 0), ROOMS), [0])

    def test_a_boat_that_goes_away_has_and_gives_no_room(self):
        start = (mark(0, 0, 100), east(0, 0), east(1, 15), east(2, 30))
        self.assertEqual(rooms(*start, away(0)), [(2, 1)])
        self.assertEqual(rooms(*start, away(1)), [(2, 0)])
        self.assertEqual(rooms(*start, away(2)), [(1, 0)])
        self.assertEqual(rooms(*start, away(2), away(0)), [])

    def test_a_boat_that_comes_back_has_no_room_from_before(self):
        start = (mark(0, 0, 100), east(0, 0), east(1, 15))
        self.assertEqual(rooms(*start, east(0, 50)), [(1, 0)])
        self.assertEqual(rooms(*start, away(0), east(0, 50)), [(0, 1)])
        self.assertEqual(rooms(*start, away(1), east(0, 50), east(1, 15)), [(0, 1)])

    def test_rooms_are_kept_when_the_boat_that_links_goes_away(self):
        linked = (east(0, 0), east(1, 15), east(2, 8, 5), mark(0, 0, 100))
        self.assertEqual(rooms(*linked, away(2)), [(0, 1)])
        # Told from the beginning the one ahead would have room.
        self.assertEqual(rooms(*linked, away(2), mark(0, 0, 100)), [(1, 0)])

    def test_rooms_kept_gained_and_lost_in_one_line(self):
        calls = (
            east(0, 0), east(1, 15), ROOMS, mark(0, 0, 20), ROOMS, east(0, 18), ROOMS, east(2, 5000), ROOMS,
            east(1, 6000), ROOMS, east(0, 21), ROOMS, east(0, 20), ROOMS, away(1), ROOMS, mark(5000, 0, 1), ROOMS,
            mark(0, 0, 0), ROOMS,
        )
        self.assertEqual(
            [answer for call, answer in zip(calls, told(*calls)) if call == ROOMS],
            [[0], [1, 1, 0], [1, 1, 0], [3, 1, 0, 2, 0, 2, 1], [2, 1, 0, 2, 0], [0], [2, 1, 0, 2, 0], [1, 2, 0],
             [1, 2, 0], [0]],
        )

    def test_exchange_takes_rooms_along(self):
        start = (mark(0, 0, 100), east(0, 0), east(1, 15), east(2, 30))
        self.assertEqual(rooms(*start, exchange(0, 1)), [(0, 1), (2, 0), (2, 1)])
        self.assertEqual(rooms(*start, exchange(1, 0)), [(0, 1), (2, 0), (2, 1)])
        self.assertEqual(rooms(*start, exchange(0, 2)), [(0, 1), (0, 2), (1, 2)])
        self.assertEqual(rooms(*start, exchange(2, 1)), [(1, 0), (2, 0), (1, 2)])
        self.assertEqual(rooms(*start, exchange(0, 2), exchange(2, 0)), [(1, 0), (2, 0), (2, 1)])
        self.assertEqual(rooms(*start, exchange(0, 2), exchange(0, 1)), [(1, 0), (0, 2), (1, 2)])

    def test_exchange_of_boats_of_which_a_third_has_room(self):
        start = (mark(0, 0, 100), east(3, 0), east(1, 15), east(6, 30))
        self.assertEqual(rooms(*start), [(1, 3), (6, 1), (6, 3)])
        self.assertEqual(rooms(*start, exchange(3, 6)), [(3, 1), (1, 6), (3, 6)])

    def test_exchange_does_not_tell_rooms_anew(self):
        # As near as the other one, so the lesser number has room; behind the exchange it is the greater one.
        start = (mark(5, 0, 100), east(2, 0, 9), east(4, 0, -9))
        self.assertEqual(rooms(*start, exchange(2, 4)), [(4, 2)])
        self.assertEqual(rooms(*start, exchange(2, 4), east(7, 0, 9000), away(7)), [(4, 2)])
        self.assertEqual(rooms(*start, exchange(2, 4), mark(5, 0, 100)), [(2, 4)])

    def test_mirror_and_turn_leave_rooms(self):
        start = (mark(30, 10, 100), east(0, 0), east(1, 15), east(2, 30), east(0, 60))
        held = [(1, 0), (2, 0), (2, 1)]
        self.assertEqual(rooms(*start), held)
        for call in (MIRROR, TURN):
            self.assertEqual(rooms(*start, call), held)
            self.assertEqual(rooms(*start, call, place(7, (9000, 9000)), away(7)), held)

    def test_the_mark_goes_along_with_mirror_and_turn(self):
        # Boat 1 is in the zone just where the mark has gone to.
        start = (mark(300, 100, 5), place(0, (-9000, 0), (-9010, 0)))
        for call, spot in ((MIRROR, (-300, 100)), (TURN, (-100, 300))):
            for step in ((5, 0), (0, 5), (3, 4)):
                edge = (spot[0] + step[0], spot[1] + step[1])
                over = (spot[0] + step[0] + 1, spot[1] + step[1] + 1)
                self.assertEqual(len(rooms(*start, call, place(1, edge, (edge[0] + 50, edge[1] + 50)))), 1)
                self.assertEqual(rooms(*start, call, place(1, over, (over[0] + 50, over[1] + 50))), [])


if __name__ == "__main__":
    unittest.main()
