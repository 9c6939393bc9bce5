"""Reading the text of rules."""

from keepclear.words import all_words

LINE_END = 10
BLANK = 32
REMARK = 35

MOST_BYTES = 3000
MOST_RULES = 12
MOST_WORDS = 8
LONGEST_NAME = 8

TOO_LONG = -8
WRONG_LINE = -1000


class Rule:
    def __init__(self, line, name, words):
        # A right line has one form only, so it is also the rule as written.
        self.line = line
        self.name = name
        # Pairs: a word, and whether not stands in front of it.
        self.words = words


class Reading:
    def __init__(self, refusal, rules):
        # 0 if the text is right.
        self.refusal = refusal
        self.rules = rules


def parted(numbers, sign):
    pieces = [[]]
    for number in numbers:
        if number == sign:
            pieces.append([])
        else:
            pieces[-1].append(number)
    return pieces


def spelled(word):
    return [ord(sign) for sign in word]


def is_name_byte(byte):
    return ord("0") <= byte <= ord("9") or ord("A") <= byte <= ord("Z") or ord("a") <= byte <= ord("z")


def is_name(piece):
    return 1 <= len(piece) <= LONGEST_NAME and all([is_name_byte(byte) for byte in piece])


def word_of(piece):
    for word in all_words():
        if piece == spelled(word):
            return word
    return None


# None where the pieces aren't words.
def read_words(pieces):
    words = []
    negated = False
    for piece in pieces:
        # A second not in a row is no word, so it falls through and makes the line wrong.
        if piece == spelled("not") and not negated:
            negated = True
            continue
        word = word_of(piece)
        if word is None:
            return None
        words.append((word, negated))
        negated = False
    if negated or len(words) > MOST_WORDS:
        return None
    return words


# None where the line is wrong by itself, whatever stands above it.
def read_rule(line):
    pieces = parted(line, BLANK)
    if len(pieces) < 3 or pieces[0] != spelled("rule") or pieces[2] != spelled("when"):
        return None
    if not is_name(pieces[1]):
        return None
    words = read_words(pieces[3:])
    if words is None:
        return None
    return Rule(line, pieces[1], words)


def means_nothing(line):
    return len(line) == 0 or line[0] == REMARK


def may_follow(rule, rules):
    return len(rules) < MOST_RULES and rule.name not in [earlier.name for earlier in rules]


def read_rules(text):
    if len(text) > MOST_BYTES:
        return Reading(TOO_LONG, [])
    rules = []
    # Behind a last line end an empty piece is left, which means nothing as an empty line does.
    for number, line in enumerate(parted(text, LINE_END), start=1):
        if means_nothing(line):
            continue
        rule = read_rule(line)
        if rule is None or not may_follow(rule, rules):
            return Reading(WRONG_LINE - number, [])
        rules.append(rule)
    return Reading(0, rules)


def written(rules):
    text = []
    for rule in rules:
        text.extend(rule.line)
        text.append(LINE_END)
    return text
