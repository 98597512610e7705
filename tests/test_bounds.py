import itertools
import random
import unittest

from tests import brute
from windowpicks.bounds import best_rule, bound, is_met
from windowpicks.rules import Rule, is_forward
from windowpicks.shares import even_share

RULE = Rule.by_order(2, 2, 1, ["a", "b"])
LEX = Rule.by_order(2, 2, 2, ["aa", "ab", "ba", "bb"])

# All sizes with at most 300 texts of w + k letters, and those with few windows.
BOUND_SIZES = [
    (letters, w, k) for letters in range(2, 5) for w in range(1, 6) for k in range(1, 5) if letters ** (w + k) <= 300
]
FEW = [(letters, w, k) for letters, w, k in BOUND_SIZES if w <= 3 and letters ** (w + k - 1) <= 8]


def bound_by_turning(letters, w, k):
    seen = set()
    total = 0
    for text in brute.all_texts(letters, w + k):
        turned = {text[at:] + text[:at] for at in range(len(text))}
        if text not in seen:
            seen |= turned
            total += (len(turned) + w - 1) // w
    return brute.value(total, letters ** (w + k))


def parted(letters, w, k, table):
    """In how many texts of w + k letters the two windows pick different places; None if the rule is not forward."""
    many = len(table)
    count = 0
    for text in range(many * letters):
        ahead = table[text // letters] - table[text % many]
        if ahead > 1:
            return None
        count += ahead < 1
    return count


def least_by_trying(letters, w, k):
    tables = itertools.product(range(w), repeat=letters ** (w + k - 1))
    return min(many for many in (parted(letters, w, k, table) for table in tables) if many is not None)


class Bound(unittest.TestCase):
    def test_against_turning_all_texts(self):
        self.assertGreater(len(BOUND_SIZES), 25)
        for letters, w, k in BOUND_SIZES:
            found = bound(letters, w, k)
            self.assertEqual(found, bound_by_turning(letters, w, k), (letters, w, k))
            self.assertIs(found.__class__, tuple)

    def test_somewhat_beyond_the_limits(self):
        for letters, w, k in [(2, 5, 4), (3, 4, 2), (4, 2, 3)]:
            self.assertEqual(bound(letters, w, k), bound_by_turning(letters, w, k))

    def test_windows_of_one_piece_pick_all_places(self):
        for letters in (2, 3, 4):
            for k in (1, 2, 3):
                self.assertEqual(bound(letters, 1, k), (1, 1))

    def test_no_forward_rule_gets_below(self):
        chance = random.Random(110)
        for letters, w, k in BOUND_SIZES:
            if (letters, w, k) in brute.SHARE_SIZES:
                pieces = brute.all_texts(letters, k)
                for last in (False, True):
                    rule = Rule.by_order(letters, w, k, chance.sample(pieces, len(pieces)), last)
                    self.assertFalse(brute.is_above(bound(letters, w, k), even_share(rule)))

    def test_by_names_and_again(self):
        for _ in range(2):
            self.assertEqual(bound(k=2, w=2, letters=2), (9, 16))
            self.assertIs(is_met(rule=RULE), True)
            self.assertEqual(best_rule(k=1, w=2, letters=2), best_rule(2, 2, 1))


class IsMet(unittest.TestCase):
    def check(self, rule):
        expected = is_forward(rule) and even_share(rule) == bound_by_turning(rule.letters, rule.w, rule.k)
        self.assertIs(is_met(rule), expected, str(rule))
        return expected

    def test_against_what_it_means(self):
        chance = random.Random(111)
        told = []
        for rule in brute.all_rules(2, 2, 1) + brute.all_rules(2, 1, 2) + brute.some_rules(chance, 2, 3, 1, 100):
            told.append(self.check(rule))
        for letters, w, k in brute.SHARE_SIZES:
            pieces = brute.all_texts(letters, k)
            told.append(self.check(Rule.by_order(letters, w, k, chance.sample(pieces, len(pieces)))))
            told.append(self.check(brute.some_rules(chance, letters, w, k, 1)[0]))
        self.assertGreater(min(told.count(True), told.count(False)), 10)

    def test_rules_with_this_share_that_are_not_forward(self):
        rules = [rule for rule in brute.all_rules(2, 3, 1) if even_share(rule) == bound(2, 3, 1)]
        told = [is_forward(rule) for rule in rules]
        self.assertIn(True, told)
        for rule in rules:
            self.assertIs(is_met(rule), is_forward(rule))


class BestRule(unittest.TestCase):
    def test_against_all_rules_of_few_windows(self):
        for letters, w, k in FEW:
            found = best_rule(letters, w, k)
            self.assertIs(found.__class__, Rule)
            self.assertEqual((found.letters, found.w, found.k), (letters, w, k))
            self.assertTrue(is_forward(found))
            least = least_by_trying(letters, w, k)
            self.assertEqual(parted(letters, w, k, found.table), least, (letters, w, k))
            self.assertEqual(even_share(found), brute.value(least, letters ** (w + k)))

    def test_somewhat_beyond_the_limits(self):
        for letters, w, k in [(3, 2, 1), (2, 2, 3), (2, 4, 1), (4, 2, 1)]:
            found = best_rule(letters, w, k)
            self.assertTrue(is_forward(found))
            self.assertFalse(brute.is_above(bound(letters, w, k), even_share(found)))
            if letters ** (w + k - 1) <= 9:
                self.assertEqual(parted(letters, w, k, found.table), least_by_trying(letters, w, k))

    def test_rules_that_meet_the_bound_are_best(self):
        for letters, w, k in FEW:
            found = best_rule(letters, w, k)
            self.assertIs(is_met(found), even_share(found) == bound(letters, w, k))
        self.assertFalse(is_met(best_rule(2, 2, 2)))
        self.assertTrue(is_met(best_rule(2, 3, 1)))


class Examples(unittest.TestCase):
    def test_those_of_the_document(self):
        self.assertEqual(
            (bound(2, 2, 1), bound(2, 2, 2), is_met(RULE), is_met(LEX), even_share(best_rule(2, 2, 1))),
            ((3, 4), (9, 16), True, False, (3, 4)))
