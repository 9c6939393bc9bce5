"""Promises 0 and 1: load and text."""

import unittest

from tests.lines import SAILING, TEXT, last, load, told, written

WORDS = (
    "opposite", "port", "other.port", "tacking", "other.tacking", "astern", "ahead",
    "overlapped", "windward", "leeward", "room", "other.room",
)


def rules(count):
    return "".join("rule r%d when port\n" % number for number in range(count))


class Right(unittest.TestCase):
    def held(self, text, count, as_written):
        self.assertEqual(told(load(text), TEXT), [[count], written(as_written)])

    def test_no_rules_at_the_beginning(self):
        self.assertEqual(told(TEXT), [[0]])

    def test_rules_are_counted_and_written_back(self):
        self.held(SAILING, 4, SAILING)

    def test_every_word_and_its_not(self):
        for word in WORDS:
            for line in ("rule a when %s\n" % word, "rule a when not %s\n" % word):
                self.held(line, 1, line)

    def test_later_rules_take_the_place_of_earlier_ones(self):
        self.assertEqual(
            told(load(SAILING), load("rule a when\n"), TEXT, load(""), TEXT),
            [[4], [1], written("rule a when\n"), [0], [0]],
        )

    def test_empty_text(self):
        self.held("", 0, "")

    def test_lines_that_mean_nothing(self):
        self.held("\n", 0, "")
        self.held("\n\n\n", 0, "")
        self.held("#", 0, "")
        self.held("#rule a when port\n# any \xff bytes  \n#\n", 0, "")
        self.held("\n# x\nrule a when port\n\n#\nrule b when room\n\n", 2, "rule a when port\nrule b when room\n")

    def test_last_line_that_is_not_ended(self):
        self.held("rule a when port", 1, "rule a when port\n")
        self.held("rule a when\nrule b when", 2, "rule a when\nrule b when\n")
        self.held("rule a when\n#", 1, "rule a when\n")

    def test_names(self):
        for name in ("0", "9", "A", "Z", "a", "z", "12345678", "ABcdEF09", "rule", "when", "not", "port"):
            line = "rule %s when port\n" % name
            self.held(line, 1, line)

    def test_names_that_differ_in_one_sign_are_two(self):
        text = "rule a when\nrule A when\nrule aa when\n"
        self.held(text, 3, text)

    def test_no_words_and_eight(self):
        self.held("rule a when\n", 1, "rule a when\n")
        for words in (" port" * 8, " not port" * 8, " not port ahead" * 4, " " + " ".join(WORDS[:8])):
            line = "rule a when%s\n" % words
            self.held(line, 1, line)

    def test_twelve_rules(self):
        self.held(rules(12), 12, rules(12))
        self.held(rules(12) + "\n# more\n", 12, rules(12))

    def test_three_thousand_bytes(self):
        line = "rule a when port\n"
        self.held(line + "#" * (3000 - len(line)), 1, line)
        self.held("\n" * (3000 - len(line)) + line, 1, line)


class Wrong(unittest.TestCase):
    def refused(self, text, number):
        # Behind the refusal the rules are as they were.
        self.assertEqual(
            told(load(SAILING), load(text), TEXT, [2], [4]),
            [[4], [number], written(SAILING)] + told(load(SAILING), [2], [4])[1:],
        )

    def test_too_long(self):
        self.refused("#" * 3001, -8)
        self.refused("\n" * 10000, -8)

    def test_length_is_looked_at_before_lines(self):
        self.refused("x\n" + "#" * 2999, -8)
        self.refused("x\n" + "#" * 2998, -1001)

    def test_the_first_wrong_line_is_told(self):
        self.refused("x", -1001)
        self.refused("rule a when\nx\ny\n", -1002)
        self.refused("\n\n#\nrule a when port\n\nrule b\n", -1006)
        self.refused("\n" * 2999 + "x", -4000)
        self.refused("rule a when\nrule b when\nx", -1003)

    def test_wrong_beginnings(self):
        for line in ("rule", "rule a", "rule a port", "a when port", "Rule a when port", "rule a When port",
                     "rules a when port", "rule when port", "rule a b when port", "when", "rule a whenport",
                     "rul", "rule a when:", "rule a rule port"):
            self.refused(line, -1001)

    def test_names(self):
        for name in ("123456789", "a-b", "a.b", "a_b", "/", ":", "@", "[", "`", "{", "\xe4", "\x00", "a\t"):
            self.refused("rule %s when port" % name, -1001)

    def test_a_name_twice(self):
        self.refused("rule a when\nrule b when\nrule a when port\n", -1003)
        self.refused("rule a when port\nrule a when port\n", -1002)

    def test_nine_words(self):
        self.refused("rule a when" + " port" * 9, -1001)
        self.refused("rule a when" + " not port" * 9, -1001)
        self.refused("rule a when" + " port" * 8 + " not", -1001)

    def test_words_that_are_none(self):
        for word in ("Port", "ports", "por", "other.astern", "other.opposite", "other.not", "other", "starboard",
                     "clear", "other.", ".port", "other.port.", "port,", "port\r", "when", "rule", "notport"):
            self.refused("rule a when " + word, -1001)
            self.refused("rule a when port not " + word, -1001)

    def test_not_needs_a_word_behind_it(self):
        self.refused("rule a when not", -1001)
        self.refused("rule a when port not", -1001)
        self.refused("rule a when not not port", -1001)

    def test_blanks(self):
        for line in (" rule a when port", "rule  a when port", "rule a  when port", "rule a when  port",
                     "rule a when port  room", "rule a when port ", "rule a when ", "rule a when not  port",
                     " ", " # remark", "rule\ta when port", "rule a when\tport", "rule  when port"):
            self.refused(line, -1001)
            self.refused("\n" + line + "\nrule b when", -1002)

    def test_other_line_ends(self):
        self.refused("rule a when port\r\n", -1001)
        self.refused("\r", -1001)

    def test_thirteen_rules(self):
        self.refused(rules(13), -1013)
        self.refused("\n" + rules(12) + "#\nrule last when", -1015)

    def test_a_wrong_line_behind_many_rules(self):
        self.refused(rules(12) + "x", -1013)

    def test_refusal_with_no_rules_before(self):
        self.assertEqual(told(load("x"), TEXT), [[-1001], [0]])
        self.assertEqual(last(load("#" * 3001), TEXT), [0])


if __name__ == "__main__":
    unittest.main()
