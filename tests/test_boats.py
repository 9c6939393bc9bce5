"""Promises 10, 11 and 17 to 19: away, boats, mirror, turn and exchange."""

import unittest

from tests.lines import (
    BEFORE_WIND, BOATS, CLOSE_PORT, CLOSE_STARBOARD, ENDS, FAR, INTO_WIND, MIRROR, PORT, RING, ROOMS, SAILING, STARBOARD,
    TEXT, TURN, away, contact, east, exchange, last, load, mark, place, sit, told, west, who, wind, wrong_pairs, written,
)


def boats(*calls):
    """The boats that are told, seven numbers each."""
    answer = last(*calls, BOATS)
    rows = [answer[start:start + 7] for start in range(1, len(answer), 7)]
    assert answer[0] == len(rows), answer
    return rows


# A line in which every kind of thing is there, and all that can be asked of it.
STATE = (load(SAILING), wind(3, 4, 2, 5), mark(20, -3, 50), east(4, 0), east(1, 15), west(1, 13, 2), place(6, (3, 4)))
ASKED = (
    TEXT, BOATS, ROOMS, RING, sit(1, 4), sit(4, 1), sit(1, 6), sit(6, 4), who(1, 4), who(6, 1), who(4, 6),
    contact(1, 4, (5, 0)), contact(6, 1, (0, -7), (1, 1)), place(4, (9, 9)), place(6, (3, 4)), place(0, (30, -3)), ROOMS,
)


class Asking(unittest.TestCase):
    def changes_nothing(self, call, answer):
        self.assertEqual(told(*STATE, call, *ASKED)[len(STATE):], [answer] + told(*STATE, *ASKED)[len(STATE):], call)


class Boats(Asking):
    def test_none(self):
        self.assertEqual(last(BOATS), [0])
        self.assertEqual(last(place(8, (1, 1)), BOATS), [0])

    def test_one(self):
        self.assertEqual(last(place(5, (1, 2), (-3, 4)), BOATS), [1, 5, 1, 2, -3, 4, 1, 0])

    def test_by_numbers(self):
        self.assertEqual(
            last(place(7, (1, 2), (3, 4)), place(0, (FAR, -FAR), (-FAR, FAR)), place(3, (-1, 2)), BOATS),
            [3, 0, FAR, -FAR, -FAR, FAR, 1, 0, 3, -1, 2, 0, 0, 0, 0, 7, 1, 2, 3, 4, 0, 0],
        )
        calls = [place(number, (number + 1, 0)) for number in (4, 2, 7, 0, 6, 1, 5, 3)]
        self.assertEqual(boats(*calls), [[number, number + 1, 0, 0, 0, 1, 0] for number in range(8)])

    def test_a_boat_placed_again_is_told_once(self):
        self.assertEqual(last(place(2, (1, 0)), place(2, (5, 6), (7, 8)), BOATS), [1, 2, 5, 6, 7, 8, 0, 0])

    def test_tack_and_tacking(self):
        self.assertEqual(
            boats(place(0, PORT), place(1, STARBOARD), place(2, PORT), place(2, CLOSE_STARBOARD), place(3, STARBOARD),
                  place(3, CLOSE_PORT)),
            [[0, 1, 0, 0, 0, 1, 0], [1, -1, 0, 0, 0, 0, 0], [2, -1, 2, 0, 0, 0, 1], [3, 1, 2, 0, 0, 1, 1]],
        )

    def test_refused_places_are_not_told(self):
        self.assertEqual(
            told(place(0, (1, 2)), place(0, (5, 5), (5, 5)), place(0, (FAR + 1, 0)), place(1, (0, 0)), BOATS)[1:],
            [[-3], [-1], [-3], [1, 0, 1, 2, 0, 0, 1, 0]],
        )

    def test_wind_takes_all_away(self):
        self.assertEqual(last(place(0, PORT), place(5, PORT), wind(0, 1), BOATS), [0])

    def test_asking_changes_nothing(self):
        for call in (BOATS, ROOMS, RING, sit(1, 4), who(6, 1), contact(4, 1, (3, 3))):
            self.changes_nothing(call, told(*STATE, call)[-1])


class Away(Asking):
    def test_the_boat_is_gone(self):
        start = (place(0, PORT), place(3, STARBOARD), place(7, PORT))
        self.assertEqual(
            told(*start, away(3), BOATS, away(0), BOATS, away(7), BOATS)[3:],
            [[0], [2, 0, 1, 0, 0, 0, 1, 0, 7, 1, 0, 0, 0, 1, 0], [0], [1, 7, 1, 0, 0, 0, 1, 0], [0], [0]],
        )

    def test_its_tack_and_tacking_are_forgotten(self):
        self.assertEqual(last(place(0, PORT), away(0), place(0, INTO_WIND)), [0, 0])
        self.assertEqual(last(place(0, PORT), away(0), place(0, CLOSE_STARBOARD)), [0, 0])
        self.assertEqual(last(place(0, PORT), place(0, CLOSE_STARBOARD), away(0), place(0, CLOSE_STARBOARD)), [0, 0])

    def test_calls_that_ask_for_it_are_refused(self):
        start = (place(0, PORT), place(1, PORT), away(0))
        self.assertEqual(
            told(*start, sit(0, 1), who(1, 0), contact(0, 1), exchange(0, 1), away(0), RING)[3:],
            [[-4], [-4], [-4], [-4], [-4], [0]],
        )

    def test_it_links_nobody_any_more(self):
        start = (east(0, 0), east(1, 15), east(2, 8, 5))
        self.assertEqual(told(*start, sit(0, 1), away(2), sit(0, 1))[3::2], [[1, 1, 0, 0, 3, 1, 0, 0], [1, 1, 0, 0, 1, 1, 0, 0]])

    def test_refusals(self):
        for number in (-1, 8) + ENDS:
            self.changes_nothing(away(number), [-1])
        for number in (0, 2, 3, 5, 7):
            self.changes_nothing(away(number), [-4])
        self.assertEqual(told(away(0), away(7), away(8)), [[-4], [-4], [-1]])


class Mirror(unittest.TestCase):
    def test_all_x_change_their_signs(self):
        self.assertEqual(
            boats(place(0, (3, 4), (5, -6)), place(4, (-7, 0), (0, 8)), MIRROR),
            [[0, -3, 4, -5, -6, 1, 0], [4, 7, 0, 0, 8, 1, 0]],
        )

    def test_answer(self):
        self.assertEqual(told(MIRROR, MIRROR), [[0], [0]])

    def test_tacks_also_of_boats_that_point_just_at_the_wind(self):
        start = (place(0, PORT), place(1, STARBOARD), place(2, INTO_WIND), place(3, PORT), place(3, BEFORE_WIND))
        self.assertEqual([boat[5] for boat in boats(*start)], [1, 0, 0, 1])
        self.assertEqual([boat[5] for boat in boats(*start, MIRROR)], [0, 1, 1, 0])
        self.assertEqual([boat[5] for boat in boats(*start, MIRROR, MIRROR)], [1, 0, 0, 1])

    def test_who_is_tacking_stays(self):
        start = (place(0, PORT), place(0, CLOSE_STARBOARD), place(1, PORT), place(2, STARBOARD), place(2, CLOSE_PORT))
        self.assertEqual([boat[5:] for boat in boats(*start)], [[0, 1], [1, 0], [1, 1]])
        self.assertEqual([boat[5:] for boat in boats(*start, MIRROR)], [[1, 1], [0, 0], [0, 1]])

    def test_the_wind_too(self):
        # Behind it the wind comes from -3 4.
        start = (wind(3, 4), MIRROR)
        self.assertEqual(
            told(*start, place(0, (-3, 5)), place(1, (-3, 3)), place(2, (-6, 8)), place(3, (3, 4)))[2:],
            told(wind(-3, 4), place(0, (-3, 5)), place(1, (-3, 3)), place(2, (-6, 8)), place(3, (3, 4)))[1:],
        )
        self.assertEqual(told(*start, place(0, (-3, 5)), place(1, (-3, 3)))[2:], [[1, 0], [0, 0]])

    def test_a_boat_placed_again(self):
        # It was on port tack; behind the mirror it isn't, and keeps that where it points just at the wind.
        start = (place(0, PORT), MIRROR)
        self.assertEqual(last(*start, place(0, INTO_WIND)), [0, 0])
        self.assertEqual(last(*start, place(0, BEFORE_WIND)), [0, 0])
        self.assertEqual(last(*start, place(0, CLOSE_PORT)), [1, 1])
        self.assertEqual(last(*start, place(0, CLOSE_STARBOARD)), [0, 0])
        self.assertEqual(last(place(0, INTO_WIND), MIRROR, place(0, INTO_WIND)), [1, 0])
        self.assertEqual(last(place(0, INTO_WIND), MIRROR, place(0, CLOSE_STARBOARD)), [0, 1])

    def test_a_boat_that_is_tacking_placed_again(self):
        start = (place(0, PORT), place(0, CLOSE_STARBOARD), MIRROR)
        self.assertEqual(last(*start, place(0, CLOSE_PORT)), [1, 1])
        self.assertEqual(last(*start, place(0, INTO_WIND)), [1, 1])
        self.assertEqual(last(*start, place(0, PORT)), [1, 0])

    def test_p_q_rules_and_zone_stay(self):
        self.assertEqual(last(wind(0, 1, 1, 2), MIRROR, place(0, PORT), place(0, (-1, 2))), [0, 0])
        self.assertEqual(last(wind(0, 1, 1, 2), MIRROR, place(0, PORT), place(0, (-1, 3))), [0, 1])
        self.assertEqual(last(load(SAILING), MIRROR, TEXT), written(SAILING))
        self.assertEqual(last(mark(0, 0, 5), MIRROR, east(0, 0), east(1, 15), ROOMS), [1, 1, 0])

    def test_situations_but_for_tacks_stay(self):
        start = (wind(1, 2), mark(0, 0, 30), place(0, (9, 3)), place(1, (2, 8), (12, 4)), place(2, (-9, 1), (-1, 1)))
        for a, b in ((0, 1), (1, 2), (2, 0)):
            before = last(*start, sit(a, b))
            self.assertEqual(last(*start, MIRROR, sit(a, b)), [1 - before[0], 1 - before[1]] + before[2:])

    def test_contact_is_mirrored(self):
        start = (place(0, (10, 0)), place(1, (30, 5), (30, -5)))
        self.assertEqual(last(*start, contact(0, 1, (1, 0))), [1, 20, 1])
        self.assertEqual(told(*start, MIRROR, contact(0, 1, (1, 0)), contact(0, 1, (-1, 0)))[3:], [[0], [1, 20, 1]])


class Turn(unittest.TestCase):
    def test_every_x_y_becomes_less_y_x(self):
        self.assertEqual(
            boats(place(0, (3, 4), (5, -6)), place(4, (-7, 0), (0, 8)), TURN),
            [[0, -4, 3, 6, 5, 0, 0], [4, 0, -7, -8, 0, 0, 0]],
        )

    def test_four_turns_are_none(self):
        self.assertEqual(told(*STATE, TURN, TURN, TURN, TURN, *ASKED)[len(STATE) + 4:], told(*STATE, *ASKED)[len(STATE):])

    def test_tacks_and_who_is_tacking_stay(self):
        start = (place(0, PORT), place(0, CLOSE_STARBOARD), place(1, PORT), place(2, STARBOARD), place(2, CLOSE_PORT),
                 place(3, INTO_WIND), place(4, PORT), place(4, INTO_WIND))
        held = [[0, 1], [1, 0], [1, 1], [0, 0], [1, 0]]
        for turns in range(5):
            self.assertEqual([boat[5:] for boat in boats(*start, *([TURN] * turns))], held)

    def test_the_wind_too(self):
        # Behind it the wind comes from -1 0.
        start = (TURN,)
        self.assertEqual(told(*start, place(0, (0, 1)), place(1, (0, -1)), place(2, (-1, 0)))[1:], [[1, 0], [0, 0], [0, 0]])
        self.assertEqual(
            told(wind(3, 4), TURN, place(0, (-3, 3)), place(1, (-5, 3)), place(2, (-4, 3)))[2:],
            [[1, 0], [0, 0], [0, 0]],
        )

    def test_a_boat_placed_again(self):
        # The wind comes from -1 0 now: a heading of -1 0 points just at it, -2 1 is close on port tack.
        start = (place(0, PORT), TURN)
        self.assertEqual(last(*start, place(0, (-1, 0))), [1, 0])
        self.assertEqual(last(*start, place(0, (-2, 1))), [1, 0])
        self.assertEqual(last(*start, place(0, (-2, -1))), [0, 1])
        self.assertEqual(last(place(0, STARBOARD), TURN, place(0, (-2, 1))), [1, 1])
        tacking = (place(0, PORT), place(0, CLOSE_STARBOARD), TURN)
        self.assertEqual(last(*tacking, place(0, (-2, -1))), [0, 1])
        self.assertEqual(last(*tacking, place(0, (-1, 0))), [0, 1])
        self.assertEqual(last(*tacking, place(0, (0, 1))), [1, 0])

    def test_situations_stay(self):
        start = (wind(1, 2), mark(0, 0, 30), place(0, (9, 3)), place(1, (2, 8), (12, 4)), place(2, (-9, 1), (-1, 1)))
        for a, b in ((0, 1), (1, 2), (2, 0)):
            self.assertEqual(last(*start, TURN, sit(a, b)), last(*start, sit(a, b)))

    def test_mirror_and_turn_one_behind_another(self):
        start = (place(0, (3, 4), (5, -6)),)
        self.assertEqual(boats(*start, MIRROR, TURN), [[0, -4, -3, 6, -5, 1, 0]])
        self.assertEqual(boats(*start, TURN, MIRROR), [[0, 4, 3, -6, 5, 1, 0]])


class Exchange(Asking):
    def test_numbers(self):
        start = (place(0, PORT), place(3, (5, 6), (7, 8)), place(6, (-1, 1)))
        self.assertEqual(
            boats(*start, exchange(3, 0)),
            [[0, 5, 6, 7, 8, 0, 0], [3, 1, 0, 0, 0, 1, 0], [6, -1, 1, 0, 0, 0, 0]],
        )
        self.assertEqual(boats(*start, exchange(0, 3)), boats(*start, exchange(3, 0)))
        self.assertEqual(boats(*start, exchange(0, 3), exchange(0, 3)), boats(*start))

    def test_answer(self):
        self.assertEqual(last(place(0, PORT), place(7, PORT), exchange(7, 0)), [0])

    def test_tacks_and_tacking_go_along(self):
        start = (place(0, PORT), place(0, CLOSE_STARBOARD), place(1, PORT), exchange(0, 1))
        self.assertEqual([boat[5:] for boat in boats(*start)], [[1, 0], [0, 1]])
        self.assertEqual(told(*start, place(0, INTO_WIND), place(1, INTO_WIND))[4:], [[1, 0], [0, 1]])
        self.assertEqual(told(*start, place(0, CLOSE_STARBOARD), place(1, STARBOARD))[4:], [[0, 1], [0, 0]])

    def test_windward_by_the_new_numbers_if_the_middles_are_equal(self):
        start = (east(2, 0, 5), west(5, 0, 5))
        self.assertEqual(last(*start, sit(2, 5)), [1, 0, 0, 0, 3, 1, 0, 0])
        self.assertEqual(last(*start, exchange(2, 5), sit(2, 5)), [0, 1, 0, 0, 3, 1, 0, 0])

    def test_refusals(self):
        for a, b, number in wrong_pairs(4, 2):
            self.changes_nothing(exchange(a, b), [number])


if __name__ == "__main__":
    unittest.main()
