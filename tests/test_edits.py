import random
import unittest

from tests import brute
from windowpicks.edits import greatest_moved, most_moved, moved
from windowpicks.errors import InvalidLetters
from windowpicks.picks import picks
from windowpicks.rules import Rule

RULE = Rule.by_order(2, 2, 1, ["a", "b"])


def changed(text, at, letter):
    return text[:at] + letter + text[at + 1:]


def greatest_by_trying(rule, more):
    """The greatest number of moved places, in all texts with `more` letters than needed on both sides."""
    at = 2 * rule.w + rule.k - 3 + more
    texts = brute.all_texts(rule.letters, 2 * at + 1)
    there = {text: set(brute.places(rule, text)) for text in texts}
    return max(
        len(there[text] ^ there[changed(text, at, letter)]) for text in texts for letter in "abcd"[:rule.letters])


class Moved(unittest.TestCase):
    def check(self, rule, text, at, letter):
        ahead = brute.places(rule, text)
        behind = brute.places(rule, changed(text, at, letter))
        gone = tuple(sorted(set(ahead) - set(behind)))
        come = tuple(sorted(set(behind) - set(ahead)))
        found = moved(rule, text, at, letter)
        self.assertEqual(found, (gone, come), (str(rule), text, at, letter))
        self.assertEqual([found.__class__] + [part.__class__ for part in found], [tuple] * 3)
        if letter == text[at]:
            self.assertEqual(found, ((), ()))

    def test_each_place_and_letter(self):
        chance = random.Random(70)
        for letters, w, k in brute.SIZES:
            rule = brute.some_rules(chance, letters, w, k, 1)[0]
            for length in [1, w + k - 2, w + k - 1, w + k, 14]:
                text = brute.some_text(chance, letters, length)
                for at in range(length):
                    for letter in "abcd"[:letters]:
                        self.check(rule, text, at, letter)

    def test_all_short_texts(self):
        chance = random.Random(71)
        for rule in [RULE, Rule(2, 2, 1, [0] * 4)] + brute.some_rules(chance, 2, 3, 1, 2):
            for length in range(1, 7):
                for text in brute.all_texts(2, length):
                    for at in range(length):
                        self.check(rule, text, at, "a")
                        self.check(rule, text, at, "b")

    def test_long_texts(self):
        chance = random.Random(72)
        for letters, w, k in [(2, 5, 4), (4, 3, 2), (3, 5, 1), (2, 1, 4)]:
            rule = brute.some_rules(chance, letters, w, k, 1)[0]
            text = brute.some_text(chance, letters, 300)
            for at in [0, 1, 150, 298, 299]:
                self.check(rule, text, at, chance.choice("abcd"[:letters]))

    def test_wrong_letters(self):
        for text, at in [("c", 0), ("ac", 1), ("abcab", 2), ("ab ", 2), ("a\nb", 1), ("aaaB", 3), ("acca", 1)]:
            for place in range(len(text)):
                with self.assertRaises(InvalidLetters) as caught:
                    moved(RULE, text, place, "a")
                self.assertEqual(caught.exception.at, at, (text, place))
        for value in brute.any_values() + [["a", "b"], b"ab"]:
            if not isinstance(value, str):
                with self.assertRaises(InvalidLetters) as caught:
                    moved(RULE, value, 0, "a")
                self.assertEqual(caught.exception.at, 0)

    def test_by_names_and_again(self):
        for _ in range(2):
            self.assertEqual(moved(letter="a", at=3, text="babba", rule=RULE), ((2, 4), (3,)))
            self.assertEqual(moved(RULE, "babaa", 3, "b"), ((3,), (2, 4)))


class MostMoved(unittest.TestCase):
    def check(self, chance, rule):
        found = most_moved(rule)
        self.assertIs(found.__class__, tuple)
        text, letter, number = found
        at = 2 * rule.w + rule.k - 3
        self.assertEqual(len(text), 4 * rule.w + 2 * rule.k - 5, str(rule))
        self.assertEqual(set(text + letter) - set("abcd"[:rule.letters]), set())
        self.assertEqual(len(letter), 1)
        self.assertIs(type(number), int)
        self.assertEqual(greatest_moved(rule), number)
        self.assertLessEqual(number, 2 * rule.w + rule.k - 2)
        for _ in range(4):
            size = rule.w + rule.k
            ahead = brute.some_text(chance, rule.letters, chance.randrange(size))
            behind = brute.some_text(chance, rule.letters, chance.randrange(size))
            old = set(picks(rule, ahead + text + behind))
            new = set(picks(rule, ahead + changed(text, at, letter) + behind))
            self.assertEqual(len(old ^ new), number, (str(rule), found, ahead, behind))

    def test_all_sizes(self):
        chance = random.Random(73)
        for letters, w, k in brute.EDIT_SIZES:
            for rule in brute.some_rules(chance, letters, w, k, 1):
                self.check(chance, rule)
        for rule in brute.all_rules(2, 2, 1) + brute.some_rules(chance, 2, 3, 1, 10):
            self.check(chance, rule)

    def test_the_greatest_number_against_trying(self):
        chance = random.Random(74)
        rules = brute.all_rules(2, 2, 1) + brute.all_rules(2, 1, 2) + brute.some_rules(chance, 2, 2, 2, 20)
        rules += brute.some_rules(chance, 2, 3, 1, 20) + brute.some_rules(chance, 3, 2, 1, 10)
        rules += brute.some_rules(chance, 3, 1, 2, 1) + brute.some_rules(chance, 4, 1, 1, 1)
        told = []
        for rule in rules:
            self.assertEqual(greatest_moved(rule), greatest_by_trying(rule, 0), str(rule))
            told.append(greatest_moved(rule))
        self.assertGreater(len(set(told)), 3)
        self.assertEqual(min(told), 0)

    def test_more_letters_around_move_no_more(self):
        chance = random.Random(75)
        for rule in brute.all_rules(2, 2, 1) + brute.some_rules(chance, 2, 2, 2, 3):
            self.assertEqual(greatest_moved(rule), greatest_by_trying(rule, 1), str(rule))

    def test_drawn_texts_move_no_more(self):
        chance = random.Random(76)
        for letters, w, k in brute.EDIT_SIZES:
            rule = brute.some_rules(chance, letters, w, k, 1)[0]
            greatest = greatest_moved(rule)
            for _ in range(20):
                text = brute.some_text(chance, letters, 40)
                gone, come = moved(rule, text, chance.randrange(40), chance.choice("abcd"[:letters]))
                self.assertLessEqual(len(gone) + len(come), greatest)

    def test_rules_that_pick_all_places_move_none(self):
        chance = random.Random(77)
        for letters, w, k in brute.EDIT_SIZES:
            rule = Rule(letters, w, k, [w - 1] * letters ** (w + k - 1))
            self.assertEqual(greatest_moved(rule), 0)
            self.check(chance, rule)

    def test_by_name_and_again(self):
        for _ in range(2):
            self.assertEqual(greatest_moved(rule=RULE), 2)
            self.assertEqual(most_moved(rule=RULE), most_moved(RULE))
            self.assertEqual(RULE.table, (0, 0, 1, 0))


class Examples(unittest.TestCase):
    def test_those_of_the_document(self):
        self.assertEqual(
            (moved(RULE, "babba", 3, "a"), moved(RULE, "babba", 2, "a"), greatest_moved(RULE)),
            (((2, 4), (3,)), ((), ()), 2))
