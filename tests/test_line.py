"""The interface: how calls and answers lie in their lists, and that nothing is kept."""

import unittest

from keepclear.water import answers

from tests.lines import (
    BOATS, DOUBLES, GAPS, MIRROR, RING, ROOMS, SAILING, TEXT, TURN, WEIGHTS, alike, away, contact, decide, exchange, load,
    mark, place, sit, who, wind,
)

CALLS = [
    load(SAILING), TEXT, GAPS, DOUBLES, WEIGHTS, alike("rule a when port"), decide(200), decide(-5), wind(3, 4, 2, 1),
    mark(7, 8, 90), place(2, (5, 5)), place(2, (-1, 6)), place(9, (1, 1)), place(1, (1, 1), (1, 1)),
    load("rule a when\nx"), alike("#" * 3001), place(5, (9, 4)), BOATS, sit(2, 5), who(5, 2), ROOMS, RING,
    contact(2, 5, (3, 4)), contact(2, 5, (0, 0), (1, 2000)), MIRROR, TURN, exchange(5, 2), exchange(5, 5), BOATS, ROOMS,
    away(2), away(2), sit(2, 5), who(-1, 5), BOATS,
]


def joined(calls):
    return [number for call in calls for number in call]


class Line(unittest.TestCase):
    def test_counts_and_numbers(self):
        self.assertEqual(answers([2]), [9, 384, 0, 0, 0, 0, 1, 0, 0, 0])
        self.assertEqual(answers([1]), [1, 0])
        self.assertEqual(
            answers([0, 11] + list(b"rule a when") + [1, 6, 384, 6, 383, 4, 3]),
            [1, 1, 13, 12] + list(b"rule a when\n")
            + [1, -1, 10, 3, 0, 1, 1, 1, 1, 3, 1, 1, 1, 3, 1, 384, 0, 9, 384, 0, 0, 0, 0, 1, 0, 0, 0],
        )
        self.assertEqual(answers([0, 0, 5, 0, 9, 0, 1, 0, 0, 0, 7, 0, 0, 1, 1]), [1, 0, 1, 1, 2, 1, 0, 1, -1])

    def test_text_bytes_are_not_calls(self):
        self.assertEqual(answers([0, 3, 10, 10, 35, 6, 0]), [1, 0, 9, 0, 0, 0, 0, 0, 1, 0, 0, 0])
        self.assertEqual(answers([5, 2, 9, 9, 0, 1, 0]), [1, -1001, 1, -1001])

    def test_what_is_handed_in_is_not_changed(self):
        calls = joined(CALLS)
        copy = list(calls)
        answers(calls)
        self.assertEqual(calls, copy)

    def test_nothing_is_kept(self):
        calls = joined(CALLS)
        first = answers(calls)
        self.assertEqual(answers(calls), first)
        self.assertEqual(answers([1, 2, 9, 2, 0, 1, 0, 0]), [1, 0, 9, 384, 0, 0, 0, 0, 1, 0, 0, 0, 2, 0, 0])
        self.assertEqual(answers(calls), first)

    def test_changing_an_answer_changes_no_later_one(self):
        calls = joined(CALLS)
        first = answers(calls)
        copy = list(first)
        first.clear()
        self.assertEqual(answers(calls), copy)

    def test_whole_numbers_alone(self):
        told = answers(joined(CALLS))
        self.assertIs(type(told), list)
        self.assertEqual({type(number) for number in told}, {int})

    def test_the_longest_lines(self):
        self.assertEqual(len(answers([2] * 400)), 4000)
        line = "rule %s when" + " not overlapped" * 8 + "\n"
        text = "".join(line % name for name in "abcdefghijkl")
        calls = load(text) + joined([alike(text)] * 18) + [4] * 380
        self.assertLessEqual(len(calls), 31000)
        self.assertEqual(answers(calls)[:6], [1, 12, 1, 1, 1, 1])

    def test_the_longest_lines_on_the_water(self):
        boats = joined([place(number, (number + 1, number), (0, 0)) for number in range(8)])
        self.assertEqual(answers(boats + [15] * 392)[24:], [1, 0] * 392)
        every = load("rule all when") + mark(0, 0, 1000000)
        self.assertEqual(answers(every + boats + [15] * 390)[28:], [3, 2, 0, 1] * 390)
        self.assertEqual(len(answers(every + boats + [14] * 390)), 28 + 390 * 58)
        self.assertEqual(len(answers(every + boats * 49 + [11] * 6)), 4 + 49 * 24 + 6 * 58)

    def test_every_call_may_stand_first_and_last(self):
        for call in CALLS:
            self.assertEqual(answers(list(call))[0], len(answers(list(call))) - 1)


if __name__ == "__main__":
    unittest.main()
