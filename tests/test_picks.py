import random
import unittest

from tests import brute
from windowpicks.errors import InvalidLetters
from windowpicks.picks import gap, is_picked, picked, picks
from windowpicks.rules import Rule


class Picks(unittest.TestCase):
    def check(self, rule, text):
        expected = brute.places(rule, text)
        found = picks(rule, text)
        self.assertEqual(found, expected, (str(rule), text))
        self.assertIs(found.__class__, tuple)
        pairs = picked(rule, text)
        self.assertEqual(pairs, tuple((place, text[place:place + rule.k]) for place in expected))
        self.assertIs(pairs.__class__, tuple)

    def test_all_short_texts(self):
        chance = random.Random(20)
        for letters, w, k in [(2, 1, 1), (2, 2, 1), (2, 3, 1), (2, 2, 2), (3, 2, 1), (2, 1, 3), (2, 3, 2)]:
            for rule in brute.some_rules(chance, letters, w, k, 3):
                for length in range(7):
                    for text in brute.all_texts(letters, length):
                        self.check(rule, text)

    def test_around_the_length_of_a_window(self):
        chance = random.Random(21)
        for letters, w, k in brute.SIZES:
            rule = brute.some_rules(chance, letters, w, k, 1)[0]
            size = w + k - 1
            for length in [0, 1, k, size - 1, size, size + 1, 2 * size]:
                self.check(rule, brute.some_text(chance, letters, length))
            self.assertEqual(picks(rule, "a" * (size - 1)), ())
            self.assertEqual(picked(rule, "a" * (size - 1)), ())
            self.assertEqual(picks(rule, "a" * size), (rule.table[0],))
            self.assertEqual(picked(rule, "a" * size), ((rule.table[0], "a" * k),))

    def test_long_texts(self):
        chance = random.Random(22)
        for letters, w, k in brute.SIZES:
            for rule in brute.some_rules(chance, letters, w, k, 1):
                self.check(rule, brute.some_text(chance, letters, 100))
                self.check(rule, "a" * 60)
        for letters, w, k in [(2, 5, 4), (4, 4, 1), (4, 1, 4), (2, 2, 1), (3, 5, 1)]:
            for rule in brute.some_rules(chance, letters, w, k, 1):
                self.check(rule, brute.some_text(chance, letters, 300))

    def test_each_place_once_and_ascending(self):
        rule = Rule(2, 3, 1, [2, 0, 0, 0, 0, 0, 0, 0])
        self.assertEqual(picks(rule, "aaab"), (1, 2))
        self.assertEqual(picks(Rule(2, 3, 1, [0, 2, 1, 0, 0, 0, 0, 0]), "aabb"), (1, 2))
        self.assertEqual(picks(Rule(2, 3, 1, [0, 2, 1, 0, 0, 0, 0, 0]), "aaba"), (2,))

    def test_few_picks_in_a_long_text(self):
        rule = Rule.by_order(2, 5, 1, ["a", "b"])
        self.assertEqual(picks(rule, "abbbb" * 60), tuple(range(0, 300, 5)))
        self.assertEqual(picked(rule, "abbbb" * 60), tuple((place, "a") for place in range(0, 300, 5)))

    def test_by_names_and_again(self):
        rule = Rule.by_order(2, 2, 1, ["a", "b"])
        for _ in range(2):
            self.assertEqual(picks(text="babba", rule=rule), (1, 2, 4))
            self.assertEqual(picked(text="babba", rule=rule), ((1, "a"), (2, "b"), (4, "a")))
            self.assertIs(is_picked(around="bab", rule=rule), True)
            self.assertEqual(gap(rule=rule), 2)
            self.assertEqual(picks(rule.turned, "babba"), (1, 3, 4))
        self.assertEqual(rule, Rule(2, 2, 1, [0, 0, 1, 0]))


class IsPicked(unittest.TestCase):
    def test_all_texts_around_a_place(self):
        chance = random.Random(23)
        for letters, w, k in brute.SIZES:
            size = 2 * w + k - 2
            if letters ** size <= 5000:
                for rule in brute.some_rules(chance, letters, w, k, 2):
                    self.check(rule, brute.all_texts(letters, size))

    def check(self, rule, texts):
        table = brute.offsets(rule)
        size = rule.w + rule.k - 1
        for text in texts:
            windows = [text[at:at + size] for at in range(rule.w)]
            expected = any(at + table[window] == rule.w - 1 for at, window in enumerate(windows))
            self.assertIs(is_picked(rule, text), expected, (str(rule), text))

    def test_in_a_long_text(self):
        chance = random.Random(24)
        for letters, w, k in [(2, 2, 1), (2, 3, 2), (3, 3, 1), (4, 2, 2), (2, 5, 4)]:
            for rule in brute.some_rules(chance, letters, w, k, 2):
                text = brute.some_text(chance, letters, 80)
                there, others = brute.sure_places(rule, text)
                for places, expected in [(there, True), (others, False)]:
                    for place in places:
                        around = text[place - w + 1:place + w + k - 1]
                        self.assertIs(is_picked(rule, around), expected)

    def test_it_raises_nothing_else_for_texts_of_another_length(self):
        rule = Rule.by_order(2, 2, 1, ["a", "b"])
        for text in ["", "a", "ab", "abab", "a" * 300]:
            self.assertIn(is_picked(rule, text), (True, False))


class WrongLetters(unittest.TestCase):
    def wrong(self, at, rule, text):
        for work in [picks, picked, is_picked]:
            with self.assertRaises(InvalidLetters) as caught:
                work(rule, text)
            self.assertEqual(caught.exception.at, at, (work, text))

    def test_the_first_character_that_is_no_letter(self):
        rule = Rule.by_order(2, 2, 1, ["a", "b"])
        for text, at in [("c", 0), ("ac", 1), ("bac", 2), ("abc", 2), ("acc", 1), ("cab", 0), ("aAb", 1), ("ab\n", 2),
                         (" ab", 0), ("ab ", 2), ("a1b", 1), ("a\u00e4b", 1), ("ab" * 100 + "d" + "c", 200),
                         ("a" * 299 + "c", 299)]:
            self.wrong(at, rule, text)

    def test_the_alphabet_of_the_rule(self):
        for letters in (2, 3, 4):
            rule = Rule(letters, 2, 1, [0] * letters ** 2)
            for text in ["abcd"[:letters], "abc"[:letters], "aba"]:
                self.assertEqual(picks(rule, text), brute.places(rule, text))
            self.wrong(1, rule, "a" + "abcde"[letters] + "a")
            self.wrong(2, rule, "ab" + "abcde"[letters] + "e")
            self.wrong(0, rule, "abcde"[letters])

    def test_what_is_no_string(self):
        rule = Rule.by_order(2, 2, 1, ["a", "b"])
        for value in brute.any_values() + [b"aba", ["a", "b", "a"], {"a": 0}]:
            if not isinstance(value, str):
                self.wrong(0, rule, value)
        self.wrong(0, rule, "\u00e4")
        self.wrong(0, rule, "table")

    def test_also_where_there_is_no_window(self):
        rule = Rule(2, 5, 4, [0] * 256)
        self.wrong(1, rule, "ac")
        self.assertEqual(picks(rule, "ab"), ())


class Gap(unittest.TestCase):
    def greatest(self, rule):
        """The greatest distance, in all texts that are long enough to show it."""
        found = 0
        for text in brute.all_texts(rule.letters, 3 * rule.w + rule.k - 2):
            there, _ = brute.sure_places(rule, text)
            found = max([found] + [right - left for left, right in zip(there, there[1:])])
        return found

    def test_against_trying_all_texts(self):
        chance = random.Random(25)
        rules = brute.all_rules(2, 1, 2) + brute.all_rules(2, 2, 1) + brute.some_rules(chance, 2, 2, 2, 20)
        rules += brute.some_rules(chance, 2, 3, 1, 30) + brute.some_rules(chance, 3, 2, 1, 10)
        rules += brute.some_rules(chance, 2, 4, 1, 3) + brute.some_rules(chance, 2, 3, 2, 5)
        rules += [Rule.by_order(2, 3, 1, ["b", "a"]), Rule(2, 3, 1, [0] * 8), Rule(2, 3, 1, [2] * 8)]
        rules += [Rule.by_order(2, 4, 1, ["a", "b"], True), Rule.by_order(2, 4, 1, ["b", "a"])]
        told = []
        for rule in rules:
            self.assertEqual(gap(rule), self.greatest(rule), str(rule))
            told.append(gap(rule))
        self.assertEqual(sorted(set(told)), [1, 2, 3, 4])

    def test_at_most_w(self):
        chance = random.Random(26)
        for letters, w, k in brute.SIZES:
            if letters ** (2 * w + k - 2) <= 300:
                for rule in brute.some_rules(chance, letters, w, k, 3):
                    self.assertLessEqual(1, gap(rule))
                    self.assertLessEqual(gap(rule), w)

    def test_rules_of_known_gaps(self):
        for letters, w, k in brute.SIZES:
            if letters ** (2 * w + k - 2) <= 600:
                for at in range(w):
                    self.assertEqual(gap(Rule(letters, w, k, [at] * letters ** (w + k - 1))), 1)
                if k == 1:
                    # Behind an a that is picked, w - 1 letters b and an a again: the next pick is that one.
                    self.assertEqual(gap(Rule.by_order(letters, w, k, list("abcd"[:letters]))), w)


class Examples(unittest.TestCase):
    def test_those_of_the_document(self):
        rule = Rule.by_order(2, 2, 1, ["a", "b"])
        self.assertEqual((rule.table, picks(rule, "babba")), ((0, 0, 1, 0), (1, 2, 4)))
        lex = Rule.by_order(2, 2, 2, ["aa", "ab", "ba", "bb"])
        self.assertEqual(
            (lex.table, picked(lex, "abba"), is_picked(rule, "bab"), is_picked(rule, "aba"), gap(rule), gap(lex)),
            ((0, 0, 0, 0, 1, 1, 1, 0), ((0, "ab"), (2, "ba")), True, False, 2, 2))
