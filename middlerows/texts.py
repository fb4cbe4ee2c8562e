"""The texts of rules: a line that tells how many places there are, then a line for each rule."""

from middlerows.errors import InvalidText, NoText
from middlerows.kinds import MOST_PLACES, opposite, rule_of
from middlerows.rules import check_rules, rules_from

# By its index, the word for a value.
VALUE_WORDS = ("no", "yes")


def want_words(want):
    place, value = want
    return f"{place} {VALUE_WORDS[value]}"


def rule_line(rule):
    first, second = rule
    if first == second:
        return f"must {want_words(first)}"
    return f"rule {want_words(first)} {want_words(second)}"


def write(rules):
    check_rules(rules)
    return "\n".join([f"places {rules.many}"] + [rule_line(rule) for rule in rules.rules])


def read(text):
    if not isinstance(text, str):
        raise NoText("this is no string")
    lines = [[word for word in line.split(" ") if word] for line in text.split("\n")]
    many = many_read(lines[0])
    found = [rule_read(many, number, words) for number, words in enumerate(lines[1:], start=2)]
    return rules_from(many, found)


def check_words(number, words, may_stand):
    """Checks the first words of a line: may_stand has, for each of them, all words that may stand there."""
    for index, choice in enumerate(may_stand):
        if index == len(words) or words[index] not in choice:
            raise InvalidText(number, index + 1)


def check_end(number, words, length):
    if len(words) > length:
        raise InvalidText(number, length + 1)


def many_read(words):
    numbers = [str(many) for many in range(1, MOST_PLACES + 1)]
    check_words(1, words, [["places"], numbers])
    check_end(1, words, 2)
    return int(words[1])


def rule_read(many, number, words):
    check_words(number, words, [["must", "rule"]])
    places = [str(place) for place in range(many)]
    if words[0] == "must":
        check_words(number, words, [["must"], places, VALUE_WORDS])
        check_end(number, words, 3)
        want = want_read(words[1], words[2])
        return (want, want)
    check_words(number, words, [["rule"], places, VALUE_WORDS, places, VALUE_WORDS])
    one, other = want_read(words[1], words[2]), want_read(words[3], words[4])
    if one == opposite(other):
        raise InvalidText(number, 5)
    check_end(number, words, 5)
    return rule_of(one, other)


def want_read(place, word):
    return (int(place), VALUE_WORDS.index(word))
