"""Promises 2 to 6: gaps, doubles, weights, alike and decide."""

import itertools
import random
import unittest

from keepclear.situations import number_of, situation_of

from tests.lines import DOUBLES, GAPS, SAILING, TEXT, WEIGHTS, alike, decide, last, load, told, written

# All situations as the document orders them, written out part by part.
SITUATIONS = list(itertools.product((0, 1), (0, 1), (0, 1), (0, 1), (1, 2, 3), (0, 1), (0, 1), (0, 1)))
FIRST = [0, 0, 0, 0, 1, 0, 0, 0]
LAST = [1, 1, 1, 1, 3, 1, 1, 1]

TRUE = {
    "opposite": lambda it, other, *rest: it != other,
    "port": lambda it, *rest: it == 1,
    "other.port": lambda it, other, *rest: other == 1,
    "tacking": lambda it, other, tacks, *rest: tacks == 1,
    "other.tacking": lambda it, other, tacks, too, *rest: too == 1,
    "astern": lambda it, other, tacks, too, lies, *rest: lies == 1,
    "ahead": lambda it, other, tacks, too, lies, *rest: lies == 2,
    "overlapped": lambda it, other, tacks, too, lies, *rest: lies == 3,
    "windward": lambda it, other, tacks, too, lies, up, *rest: up == 1,
    "leeward": lambda it, other, tacks, too, lies, up, *rest: up == 0,
    "room": lambda *parts: parts[6] == 1,
    "other.room": lambda *parts: parts[7] == 1,
}


def from_other(parts):
    it, other, tacks, too, lies, up, room, their = parts
    return (other, it, too, tacks, {1: 2, 2: 1, 3: 3}[lies], 1 - up, their, room)


def fits(rule, parts):
    wanted = True
    for piece in rule.split(" ")[3:]:
        if piece == "not":
            wanted = False
            continue
        if TRUE[piece](*parts) != wanted:
            return False
        wanted = True
    return True


def verdict(rules, parts):
    for number, rule in enumerate(rules):
        who = (1 if fits(rule, parts) else 0) + (2 if fits(rule, from_other(parts)) else 0)
        if who:
            return [who, number]
    return [0]


def keepers(rules):
    return [verdict(rules, parts)[0] for parts in SITUATIONS]


def counted(rules, who):
    found = [parts for parts in SITUATIONS if verdict(rules, parts)[0] == who]
    return [len(found)] + (list(found[0]) if found else [])


def weighed(rules):
    answer = [len(rules)]
    for number in range(len(rules)):
        decided = sum(1 for parts in SITUATIONS if verdict(rules, parts)[1:] == [number])
        without = rules[:number] + rules[number + 1:]
        answer += [decided, 1 if keepers(without) == keepers(rules) else 0]
    return answer


def compared(rules, others):
    for one, another, parts in zip(keepers(rules), keepers(others), SITUATIONS):
        if one != another:
            return [0] + list(parts)
    return [1]


def some_rules(source, most):
    rules = []
    for number in range(source.randint(0, most)):
        words = [source.choice(("", "not ")) + source.choice(list(TRUE)) for _ in range(source.randint(0, 4))]
        rules.append(" ".join(["rule", "r%d" % number, "when"] + words))
    return rules


class ByHand(unittest.TestCase):
    def test_situations_in_order(self):
        answered = told(*[decide(number) for number in range(384)])
        self.assertEqual(answered, [[0] + list(parts) for parts in SITUATIONS])
        self.assertEqual(answered[0], [0] + FIRST)
        self.assertEqual(answered[1], [0, 0, 0, 0, 0, 1, 0, 0, 1])
        self.assertEqual(answered[8], [0, 0, 0, 0, 0, 2, 0, 0, 0])
        self.assertEqual(answered[24], [0, 0, 0, 0, 1, 1, 0, 0, 0])
        self.assertEqual(answered[383], [0] + LAST)

    def test_decide_out_of_range(self):
        for number in (-1, 384, 385, -384, 2147483647, -2147483648):
            self.assertEqual(told(load(SAILING), decide(number), TEXT)[1:], [[-1], written(SAILING)])
            self.assertEqual(told(decide(number)), [[-1]])

    def test_decide_each_verdict(self):
        port = "rule a when port\n"
        self.assertEqual(last(load(port), decide(0)), [0] + FIRST)
        self.assertEqual(last(load(port), decide(96)), [2, 0, 0, 1, 0, 0, 1, 0, 0, 0])
        self.assertEqual(last(load(port), decide(192)), [1, 0, 1, 0, 0, 0, 1, 0, 0, 0])
        self.assertEqual(last(load(port), decide(383)), [3, 0] + LAST)

    def test_the_first_rule_that_applies_to_either_decides(self):
        # The first rule applies to the other, so the second isn't asked though it applies to it.
        text = "rule none when port not port\nrule a when windward\nrule b when leeward\n"
        self.assertEqual(last(load(text), decide(0)), [2, 1] + FIRST)
        self.assertEqual(last(load(text), decide(383)), [1, 1] + LAST)

    def test_no_rules(self):
        self.assertEqual(
            told(GAPS, DOUBLES, WEIGHTS, alike(""), alike("# nothing\n")),
            [[384] + FIRST, [0], [0], [1], [1]],
        )

    def test_a_rule_without_words_makes_both_keep_clear(self):
        self.assertEqual(
            told(load("rule all when\n"), GAPS, DOUBLES, WEIGHTS)[1:],
            [[0], [384] + FIRST, [1, 384, 0]],
        )

    def test_gaps_and_doubles_of_port(self):
        # Gaps: neither on port tack, a quarter of all; doubles: both, another quarter.
        self.assertEqual(
            told(load("rule a when port\n"), GAPS, DOUBLES)[1:],
            [[96] + FIRST, [96, 1, 1, 0, 0, 1, 0, 0, 0]],
        )

    def test_no_gaps(self):
        self.assertEqual(told(load("rule a when windward\n"), GAPS, DOUBLES)[1:], [[0], [0]])

    def test_first_gap_is_not_situation_0(self):
        self.assertEqual(last(load("rule a when not port\n"), GAPS), [96, 1, 1, 0, 0, 1, 0, 0, 0])
        self.assertEqual(last(load("rule a when not ahead\n"), GAPS), [0])
        self.assertEqual(last(load("rule a when astern\n"), GAPS), [128, 0, 0, 0, 0, 3, 0, 0, 0])

    def test_weights(self):
        text = "rule a when windward\nrule b when leeward\nrule c when windward\n"
        # Without a, b would have the other boat keep clear; b and c decide nothing.
        self.assertEqual(last(load(text), WEIGHTS), [3, 384, 0, 0, 1, 0, 1])

    def test_weights_of_a_rule_that_decides_but_is_not_needed(self):
        text = "rule a when opposite port\nrule b when port not other.port\n"
        self.assertEqual(last(load(text), WEIGHTS), [2, 192, 1, 0, 1])

    def test_weights_of_a_rule_that_changes_one_side(self):
        # In all situations where a decides b would make both keep clear.
        text = "rule a when windward\nrule b when\n"
        self.assertEqual(last(load(text), WEIGHTS), [2, 384, 0, 0, 1])

    def test_alike_asks_for_boats_not_for_rules(self):
        self.assertEqual(
            told(
                load("rule a when windward\n"),
                alike("rule b when port windward\nrule c when windward not port\n"),
                alike("rule x when not leeward"),
                alike("rule a when leeward\n"),
                alike(""),
            )[1:],
            [[1], [1], [0] + FIRST, [0] + FIRST],
        )

    def test_alike_first_situation_that_is_not(self):
        # Where the other is on port tack and it lies astern both have the other one keep clear.
        self.assertEqual(
            last(load("rule a when port"), alike("rule a when port ahead")),
            [0, 0, 1, 0, 0, 2, 0, 0, 0],
        )
        self.assertEqual(
            last(load("rule a when port"), alike("rule a when port\nrule b when room other.room tacking other.tacking")),
            [0, 0, 0, 1, 1, 1, 0, 1, 1],
        )
        self.assertEqual(last(alike("rule a when port other.port tacking other.tacking overlapped room other.room")),
                         [0, 1, 1, 1, 1, 3, 0, 1, 1])

    def test_alike_changes_nothing(self):
        self.assertEqual(
            told(load(SAILING), alike("rule a when\n"), TEXT, alike(SAILING)),
            [[4], [0] + FIRST, written(SAILING), [1]],
        )
        self.assertEqual(told(alike("rule a when\n"), TEXT, GAPS), [[0] + FIRST, [0], [384] + FIRST])

    def test_alike_refusals(self):
        for text, number in (("#" * 3001, -8), ("x\n" + "#" * 2999, -8), ("x", -1001), ("#\n\nrule a when x", -1003),
                             ("rule a when\nrule a when\n", -1002), ("rule a when ", -1001)):
            self.assertEqual(
                told(load(SAILING), alike(text), TEXT, WEIGHTS),
                [[4], [number], written(SAILING), weighed(SAILING.splitlines())],
            )

    def test_alike_with_as_many_bytes_as_may_be(self):
        self.assertEqual(last(alike("#" * 3000)), [1])


class Numbers(unittest.TestCase):
    def test_a_situation_and_its_number(self):
        for number, parts in enumerate(SITUATIONS):
            self.assertEqual(situation_of(number), parts)
            self.assertEqual(number_of(parts), number)


class EachWord(unittest.TestCase):
    def test_each_word_is_true_where_it_should_be(self):
        for word in TRUE:
            for words in (word, "not " + word, "not %s port" % word):
                rule = "rule a when " + words
                calls = [load(rule)] + [decide(number) for number in range(384)]
                expected = [verdict([rule], parts) + list(parts) for parts in SITUATIONS]
                self.assertEqual(told(*calls[:200])[1:], expected[:199])
                self.assertEqual(told(calls[0], *calls[200:])[1:], expected[199:])


class AgainstPlainCounting(unittest.TestCase):
    def test_some_rules(self):
        source = random.Random(46)
        for _ in range(40):
            rules = some_rules(source, 5)
            others = some_rules(source, 3) if source.random() < 0.7 else list(reversed(rules))
            number = source.randrange(384)
            parts = SITUATIONS[number]
            self.assertEqual(
                told(load("\n".join(rules)), GAPS, DOUBLES, WEIGHTS, alike("\n".join(others)), decide(number)),
                [[len(rules)], counted(rules, 0), counted(rules, 3), weighed(rules), compared(rules, others),
                 verdict(rules, parts) + list(parts)],
                rules,
            )

    def test_the_sailing_rules(self):
        rules = SAILING.splitlines()
        self.assertEqual(
            told(load(SAILING), GAPS, DOUBLES, WEIGHTS)[1:],
            [counted(rules, 0), counted(rules, 3), weighed(rules)],
        )
        # Half of all are on unlike tacks; of the others half have one boat tacking; two thirds of the rest lie apart.
        self.assertEqual(weighed(rules), [4, 192, 0, 96, 0, 64, 0, 32, 0])


if __name__ == "__main__":
    unittest.main()
