"""The interface: how calls and answers lie in their lists, and that nothing is kept."""

import unittest

from keepclear.water import answers

from tests.lines import DOUBLES, GAPS, SAILING, TEXT, WEIGHTS, alike, decide, load, mark, place, wind

CALLS = [
    load(SAILING), TEXT, GAPS, DOUBLES, WEIGHTS, alike("rule a when port"), decide(200), decide(-5), wind(3, 4, 2, 1),
    mark(7, 8, 90), place(2, (5, 5)), place(2, (-1, 6)), place(9, (1, 1)), place(1, (1, 1), (1, 1)),
    load("rule a when\nx"), alike("#" * 3001),
]


def joined(calls):
    return [number for call in calls for number in call]


class Line(unittest.TestCase):
    def test_counts_and_numbers(self):
        self.assertEqual(answers([2]), [9, 384, 0, 0, 0, 0, 1, 0, 0, 0])
        self.assertEqual(answers([1]), [1, 0])
        self.assertEqual(
            answers([0, 11] + list(b"rule a when") + [1, 6, 384, 6, 383, 4, 3]),
            [1, 1, 13, 12] + list(b"rule a when\n")
            + [1, -1, 10, 3, 0, 1, 1, 1, 1, 3, 1, 1, 1, 3, 1, 384, 0, 9, 384, 0, 0, 0, 0, 1, 0, 0, 0],
        )
        self.assertEqual(answers([0, 0, 5, 0, 9, 0, 1, 0, 0, 0, 7, 0, 0, 1, 1]), [1, 0, 1, 1, 2, 1, 0, 1, -1])

    def test_text_bytes_are_not_calls(self):
        self.assertEqual(answers([0, 3, 10, 10, 35, 6, 0]), [1, 0, 9, 0, 0, 0, 0, 0, 1, 0, 0, 0])
        self.assertEqual(answers([5, 2, 9, 9, 0, 1, 0]), [1, -1001, 1, -1001])

    def test_what_is_handed_in_is_not_changed(self):
        calls = joined(CALLS)
        copy = list(calls)
        answers(calls)
        self.assertEqual(calls, copy)

    def test_nothing_is_kept(self):
        calls = joined(CALLS)
        first = answers(calls)
        self.assertEqual(answers(calls), first)
        self.assertEqual(answers([1, 2, 9, 2, 0, 1, 0, 0]), [1, 0, 9, 384, 0, 0, 0, 0, 1, 0, 0, 0, 2, 0, 0])
        self.assertEqual(answers(calls), first)

    def test_changing_an_answer_changes_no_later_one(self):
        calls = joined(CALLS)
        first = answers(calls)
        copy = list(first)
        first.clear()
        self.assertEqual(answers(calls), copy)

    def test_whole_numbers_alone(self):
        told = answers(joined(CALLS))
        self.assertIs(type(told), list)
        self.assertEqual({type(number) for number in told}, {int})

    def test_the_longest_lines(self):
        self.assertEqual(len(answers([2] * 400)), 4000)
        line = "rule %s when" + " not overlapped" * 8 + "\n"
        text = "".join(line % name for name in "abcdefghijkl")
        calls = load(text) + joined([alike(text)] * 18) + [4] * 380
        self.assertLessEqual(len(calls), 31000)
        self.assertEqual(answers(calls)[:6], [1, 12, 1, 1, 1, 1])


if __name__ == "__main__":
    unittest.main()
