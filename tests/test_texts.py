"""Point 51: the texts of rules."""

import random
import unittest

from middlerows.errors import InvalidText, NoRules, NoText
from middlerows.rules import Rules
from middlerows.texts import read, write
from tests import slow
from tests.samples import OTHER_KINDS, many_rules, nobodys_rules, wide_rules

RULES = many_rules() + nobodys_rules() + wide_rules()
VALUES = ("no", "yes")
# Texts that cannot stand, with the line and the word that tell where.
WRONG = (
    ("", 1, 1), (" ", 1, 1), ("\n", 1, 1), ("\nplaces 2", 1, 1), ("place 2", 1, 1), ("Places 2", 1, 1), ("2", 1, 1),
    ("places", 1, 2), ("  places  ", 1, 2), ("places\n2", 1, 2), ("places 0", 1, 2), ("places 9", 1, 2),
    ("places 10", 1, 2), ("places -1", 1, 2), ("places 02", 1, 2), ("places +2", 1, 2), ("places 2.0", 1, 2),
    ("places two", 1, 2), ("places 1_0", 1, 2), ("places \u0662", 1, 2), ("places \u00b2", 1, 2), ("places 2 2", 1, 3),
    ("places 2 \tx", 1, 3), ("places\t2", 1, 1), ("places 2\t", 1, 2), ("places 2\r\nmust 0 no", 1, 2),
    ("places\u00a02", 1, 1), ("places 2 must 0 no", 1, 3), ("places 12345678901234567890", 1, 2),
    ("places x y\nnor this", 1, 2), ("places 2\n", 2, 1), ("places 2\n\nmust 0 no", 2, 1), ("places 2\n   ", 2, 1),
    ("places 2\nmust 0 no\n", 3, 1), ("places 2\nplaces 2", 2, 1), ("places 2\nMust 0 no", 2, 1),
    ("places 2\nrules 0 no 1 no", 2, 1), ("places 2\n0 no", 2, 1), ("places 2\nmust", 2, 2), ("places 2\nmust 0", 2, 3),
    ("places 2\nmust 2 no", 2, 2), ("places 2\nmust -1 no", 2, 2), ("places 2\nmust 00 no", 2, 2),
    ("places 2\nmust +0 no", 2, 2), ("places 2\nmust -0 no", 2, 2), ("places 2\nmust no 0", 2, 2),
    ("places 2\nmust 0 No", 2, 3), ("places 2\nmust 0 0", 2, 3), ("places 2\nmust 0 maybe", 2, 3),
    ("places 2\nmust 0 no no", 2, 4), ("places 2\nmust 0 no 1 no", 2, 4), ("places 2\nmust 5 maybe x", 2, 2),
    ("places 2\nrule", 2, 2), ("places 2\nrule 0", 2, 3), ("places 2\nrule 0 no", 2, 4),
    ("places 2\nrule 0 no 1", 2, 5),
    ("places 2\nrule 2 no 1 no", 2, 2), ("places 2\nrule 0 on 1 no", 2, 3), ("places 2\nrule 0 no 2 no", 2, 4),
    ("places 2\nrule 0 no 1 on", 2, 5), ("places 2\nrule 0 no 1 no 1", 2, 6), ("places 2\nrule 0 no 0 yes", 2, 5),
    ("places 2\nrule 1 yes 1 no", 2, 5), ("places 2\nrule 0 no 0 yes 1 no", 2, 5), ("places 2\nrule 0 no 0 no x", 2, 6),
    ("places 1\nrule 0 no 1 no", 2, 4), ("places 2\nmust 0 no\nrule 0 no 1 yes\nmust 1", 4, 3),
    ("places 2\nmust 0 no\nmust 0 no x\nmust", 3, 4), ("places 2\nmust\t0 no", 2, 1), ("places 2\nmust 0 no\t", 2, 3),
    ("places 2\nmust 0 no\x0bmust 1 no", 2, 3), ("places 2\nmust 0 no\u2028", 2, 3), ("places 8\nmust 8 no", 2, 2),
    ("places 2\nrule 0 no or 1 yes", 2, 4), ("row", 1, 1), ("# places 2", 1, 1))


def slowly_written(rules):
    lines = [" ".join(("places", str(rules.many)))]
    for one, other in rules.rules:
        words = ["must" if one == other else "rule", str(one[0]), VALUES[one[1]]]
        if one != other:
            words += [str(other[0]), VALUES[other[1]]]
        lines.append(" ".join(words))
    return "\n".join(lines)


def written_anew(rules, chance):
    """A text of rules in any order, with rules again, wants in any order, and spaces in any number."""
    lines = []
    for one, other in rules.rules:
        for _ in range(chance.choice((1, 1, 2))):
            wants = chance.sample([one, other], 2)
            words = ["rule"] + [word for place, value in wants for word in (str(place), VALUES[value])]
            if one == other and chance.random() < 0.5:
                words = ["must"] + words[1:3]
            lines.append(words)
    chance.shuffle(lines)
    spaces = ("", " ", "   ")
    return "\n".join(
        chance.choice(spaces) + chance.choice((" ", "  ", "     ")).join(words) + chance.choice(spaces)
        for words in [["places", str(rules.many)]] + lines)


class TestWrite(unittest.TestCase):
    def test_against_the_words(self):
        for rules in RULES:
            self.assertEqual(write(rules), slowly_written(rules))

    def test_edges(self):
        self.assertEqual(write(Rules(1, ())), "places 1")
        self.assertEqual(write(Rules(8, (((7, 1), (7, 1)),))), "places 8\nmust 7 yes")

    def test_no_rules_value(self):
        for value in OTHER_KINDS + ("places 1",):
            with self.subTest(value=value):
                self.assertRaises(NoRules, write, value)


class TestRead(unittest.TestCase):
    def test_what_was_written(self):
        for rules in RULES:
            self.assertEqual(read(write(rules)), rules)

    def test_any_order_rules_again_and_further_spaces(self):
        chance = random.Random(51)
        for rules in RULES[::2] + nobodys_rules() + wide_rules():
            self.assertEqual(read(written_anew(rules, chance)), rules)

    def test_without_a_rule(self):
        for many in range(1, 9):
            self.assertEqual(read(f"places {many}"), Rules(many, ()))
            self.assertEqual(read(f"   places    {many}  "), Rules(many, ()))

    def test_the_same_want_twice(self):
        for text in ("places 2\nrule 1 no 1 no", "places 2\nmust 1 no", "places 2\nmust 1 no\nrule 1 no 1 no"):
            self.assertEqual(read(text).rules, (((1, 0), (1, 0)),))
        self.assertEqual(read("places 2\nrule 1 yes 0 no\nrule 0 no 1 yes").rules, (((0, 0), (1, 1)),))

    def test_the_first_line_and_word_that_cannot_stand(self):
        for text, line, word in WRONG:
            with self.subTest(text=text):
                with self.assertRaises(InvalidText) as told:
                    read(text)
                self.assertEqual((told.exception.line, told.exception.word), (line, word))

    def test_texts_that_are_cut_off(self):
        text = "places 3\nrule 0 no 1 yes\nmust 2 no\nrule 1 yes 2 yes"
        for size in range(len(text)):
            lines = [line.split() for line in text[:size].split("\n")]
            sizes = [{"places": 2, "must": 3, "rule": 5}.get(words[0], 1) if words else 1 for words in lines]
            if len(lines[-1]) == sizes[-1] and lines[-1][-1] in ("3", "no", "yes"):
                self.assertEqual(read(text[:size]).many, 3)
                continue
            with self.subTest(size=size), self.assertRaises(InvalidText) as told:
                read(text[:size])
            # The last word stands, or is cut off, too.
            whole = text[size:size + 1] in ("", " ", "\n") or text[:size][-1:] in ("", " ", "\n")
            self.assertEqual(told.exception.line, len(lines))
            self.assertEqual(told.exception.word, len(lines[-1]) + 1 if whole else len(lines[-1]))

    def test_words_changed_one_by_one(self):
        lines = [["places", "3"], ["rule", "0", "no", "1", "yes"], ["must", "2", "no"]]
        for number, words in enumerate(lines):
            for index in range(len(words)):
                for other in ("x", "3.", "nO", "9", "-", "must0"):
                    wrong = [list(line) for line in lines]
                    wrong[number][index] = other
                    with self.subTest(number=number, index=index, other=other):
                        with self.assertRaises(InvalidText) as told:
                            read("\n".join(" ".join(line) for line in wrong))
                        self.assertEqual((told.exception.line, told.exception.word), (number + 1, index + 1))

    def test_no_text(self):
        for value in OTHER_KINDS + (["places 1"], ("places 1",), 1, b"places 1", Rules(1, ())):
            if not isinstance(value, str):
                with self.subTest(value=value):
                    self.assertRaises(NoText, read, value)

    def test_all_rules_at_once(self):
        every = Rules(3, tuple(slow.rules_of_places(3)))
        self.assertEqual(read(write(every)), every)
