import random
import unittest

from tests import brute
from windowpicks.comparing import alike, no_more, parting
from windowpicks.rules import Rule

RULE = Rule.by_order(2, 2, 1, ["a", "b"])


def sides(p, q):
    """How many letters ahead of a place and behind it are wide enough for both rules."""
    return max(p.w, q.w) - 1, max(p.w + p.k, q.w + q.k) - 2


def is_there(rule, text, place):
    """Whether a rule picks a place, by the letters around it alone."""
    return brute.is_picked_amid(rule, text[place - rule.w + 1:place + rule.w + rule.k - 1])


def by_trying(p, q):
    """Whether each place of the one is one of the other, and the other way about."""
    ahead, behind = sides(p, q)
    texts = brute.all_texts(p.letters, ahead + 1 + behind)
    found = [(is_there(p, text, ahead), is_there(q, text, ahead)) for text in texts]
    return all(b for a, b in found if a), all(a for a, b in found if b)


def with_a_letter_more(rule):
    """The rule of pieces of one letter more that looks at all of them but their last letters."""
    table = [at for at in rule.table for _ in range(rule.letters)]
    return Rule(rule.letters, rule.w, rule.k + 1, table)


class Comparing(unittest.TestCase):
    def check(self, p, q):
        ours, theirs = by_trying(p, q)
        message = str(p), str(q)
        self.assertIs(no_more(p, q), ours, message)
        self.assertIs(no_more(q, p), theirs, message)
        self.assertIs(alike(p, q), ours and theirs, message)
        self.assertIs(alike(q, p), ours and theirs, message)
        for one, other in [(p, q), (q, p)]:
            found = parting(one, other)
            if ours and theirs:
                self.assertIsNone(found, message)
            else:
                self.check_parting(one, other, found)

    def check_parting(self, p, q, found):
        self.assertIs(found.__class__, tuple)
        text, place = found
        self.assertIs(text.__class__, str)
        self.assertIs(type(place), int)
        self.assertEqual(set(text) - set("abcd"[:p.letters]), set())
        for rule in (p, q):
            self.assertGreaterEqual(place, rule.w - 1)
            self.assertGreaterEqual(len(text) - 1 - place, rule.w + rule.k - 2)
        self.assertNotEqual(is_there(p, text, place), is_there(q, text, place), (str(p), str(q), found))
        chance = random.Random(len(text))
        for _ in range(3):
            row = brute.some_text(chance, p.letters, 7)
            longer = row + text + brute.some_text(chance, p.letters, 7)
            first = place + 7 in brute.places(p, longer)
            self.assertEqual(first, place in brute.places(p, text))
            self.assertNotEqual(first, place + 7 in brute.places(q, longer))

    def test_all_pairs_of_small_rules(self):
        rules = brute.all_rules(2, 2, 1) + [Rule(2, 1, 1, [0, 0]), Rule(2, 1, 2, [0] * 4)]
        for p in rules:
            for q in rules:
                self.check(p, q)

    def test_rules_of_one_size(self):
        chance = random.Random(80)
        told = set()
        for letters, w, k in brute.SHARE_SIZES:
            one, other = brute.some_rules(chance, letters, w, k, 2)
            row = list(one.table)
            row[chance.randrange(len(row))] = chance.randrange(w)
            near = Rule(letters, w, k, row)
            for p, q in [(one, other), (one, one), (one, near), (one, Rule.read(str(one)))]:
                self.check(p, q)
                told.add((alike(p, q), no_more(p, q)))
        self.assertEqual(told, {(True, True), (False, True), (False, False)})

    def test_rules_of_two_sizes(self):
        chance = random.Random(81)
        for p_size in brute.SHARE_SIZES:
            for q_size in chance.sample([size for size in brute.SHARE_SIZES if size[0] == p_size[0]], 2):
                ahead = max(p_size[1], q_size[1])
                behind = max(p_size[1] + p_size[2], q_size[1] + q_size[2])
                if p_size[0] ** (ahead + behind) <= 3000:
                    self.check(brute.some_rules(chance, *p_size, 1)[0], brute.some_rules(chance, *q_size, 1)[0])

    def test_alike_with_other_sizes(self):
        chance = random.Random(82)
        for letters, w, k in [(2, 1, 1), (2, 2, 1), (2, 2, 2), (2, 3, 1), (2, 3, 2), (3, 2, 1), (4, 1, 1), (3, 1, 2)]:
            for rule in brute.some_rules(chance, letters, w, k, 3):
                longer = with_a_letter_more(rule)
                self.assertTrue(alike(rule, longer))
                self.check(rule, longer)
        every = [Rule(2, w, k, [at] * 2 ** (w + k - 1)) for w in (1, 2, 3) for k in (1, 2) for at in range(w)]
        for p in every:
            for q in every:
                self.assertTrue(alike(p, q))
                self.assertIsNone(parting(p, q))

    def test_wider_windows_of_an_order_pick_no_more(self):
        chance = random.Random(83)
        for letters, k in [(2, 1), (2, 2), (2, 3), (3, 1)]:
            pieces = brute.all_texts(letters, k)
            order = chance.sample(pieces, len(pieces))
            p, q = Rule.by_order(letters, 3, k, order), Rule.by_order(letters, 2, k, order)
            self.assertTrue(no_more(p, q))
            self.check(p, q)

    def test_letters_that_part_them_are_seen(self):
        # Both are the same but for one window; the letter that tells it stands far from the place.
        for window in range(64):
            row = [0] * 64
            row[window] = 2
            self.check(Rule(2, 3, 4, [0] * 64), Rule(2, 3, 4, row))

    def test_by_names_and_again(self):
        last = Rule.by_order(2, 2, 1, ["a", "b"], True)
        every = Rule(2, 2, 1, [0, 0, 0, 0])
        for _ in range(2):
            self.assertIs(alike(q=last, p=RULE), False)
            self.assertIs(no_more(q=every, p=RULE), True)
            self.assertIs(no_more(q=RULE, p=every), False)
            self.assertEqual(parting(q=last, p=RULE), parting(RULE, last))
            self.assertEqual(RULE.table, (0, 0, 1, 0))


class Examples(unittest.TestCase):
    def test_those_of_the_document(self):
        last = Rule.by_order(2, 2, 1, ["a", "b"], True)
        self.assertEqual(
            (alike(RULE, last), no_more(RULE, Rule(2, 2, 1, [0, 0, 0, 0])), parting(RULE, RULE),
             alike(RULE, Rule(2, 3, 1, [0, 0, 1, 0, 1, 1, 1, 1]))),
            (False, True, None, False))
