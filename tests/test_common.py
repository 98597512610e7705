import itertools
import random
import unittest

from tests import brute
from windowpicks.common import common, least_common, least_near, parted, parted_near
from windowpicks.errors import InvalidLetters
from windowpicks.picks import picks
from windowpicks.rules import Rule

RULE = Rule.by_order(2, 2, 1, ["a", "b"])
LEX = Rule.by_order(2, 2, 2, ["aa", "ab", "ba", "bb"])
ALL = Rule(2, 2, 1, [0, 0, 0, 0])

# For these the texts that part some stretch have a common pick just ahead of it, or just behind it.
TELLING = ["11010002", "12121210", "01212021", "20001100", "12020021", "01212022"]


def stretch_picks(rule, text, t):
    """The picked places with their pieces of a stretch that stands in a text with w - 1 letters around it."""
    begin = rule.w - 1
    inner = [(at - begin, text[at:at + rule.k]) for at in brute.places(rule, text)]
    return {(at, piece) for at, piece in inner if 0 <= at <= t - rule.k}


def differ(one, other):
    return sum(x != y for x, y in zip(one, other))


def is_parted_somewhere(rule, t, most):
    """Whether some stretches of t letters, that differ in so many places at most, have no common pick."""
    begin = rule.w - 1
    shown = {}
    for text in brute.all_texts(rule.letters, t + 2 * begin):
        shown.setdefault(text[begin:begin + t], set()).add(frozenset(stretch_picks(rule, text, t)))
    for one, other in itertools.product(shown, repeat=2):
        if differ(one, other) <= most:
            if any(not ours & theirs for ours in shown[one] for theirs in shown[other]):
                return True
    return False


def some_rules(chance, sizes, many):
    """Rules of all these sizes: drawn ones, one by an order, and one that picks all places."""
    for letters, w, k in sizes:
        pieces = brute.all_texts(letters, k)
        yield from brute.some_rules(chance, letters, w, k, many)
        yield Rule.by_order(letters, w, k, chance.sample(pieces, len(pieces)))
        yield Rule(letters, w, k, [chance.randrange(w)] * letters ** (w + k - 1))


class Common(unittest.TestCase):
    def check(self, rule, one, other):
        pairs = [
            (p, q) for p in brute.places(rule, one) for q in brute.places(rule, other)
            if one[p:p + rule.k] == other[q:q + rule.k]]
        found = common(rule, one, other)
        self.assertEqual(found, tuple(sorted(pairs)), (str(rule), one, other))
        self.assertEqual({pair.__class__ for pair in found} | {found.__class__}, {tuple})

    def test_against_all_pairs(self):
        chance = random.Random(60)
        for letters, w, k in brute.SIZES:
            for rule in brute.some_rules(chance, letters, w, k, 3):
                for length in [w + k - 1, w + k, 20]:
                    one = brute.some_text(chance, letters, length)
                    other = brute.some_text(chance, letters, chance.randrange(length, 30))
                    self.check(rule, one, other)
                    self.check(rule, other, one)
                    self.check(rule, one, one)

    def test_all_short_pairs(self):
        chance = random.Random(61)
        texts = [text for length in range(5) for text in brute.all_texts(2, length)]
        for rule in [RULE, LEX, ALL] + brute.some_rules(chance, 2, 3, 1, 1):
            for one in texts:
                for other in texts:
                    self.check(rule, one, other)

    def test_texts_shorter_than_a_window(self):
        for rule in [RULE, LEX, Rule(2, 5, 4, [0] * 256)]:
            for short in ["", "a", "b"]:
                for text in ["", "a", "babba", "ab" * 20]:
                    if len(short) < rule.w + rule.k - 1:
                        self.assertEqual(common(rule, short, text), ())
                        self.assertEqual(common(rule, text, short), ())

    def test_long_texts(self):
        self.assertEqual(common(ALL, "a" * 300, "b" * 300), ())
        found = common(ALL, "a" * 300, "a" * 200)
        self.assertEqual(found, tuple(itertools.product(range(299), range(199))))
        chance = random.Random(62)
        rule = brute.some_rules(chance, 4, 3, 2, 1)[0]
        self.check(rule, brute.some_text(chance, 4, 300), brute.some_text(chance, 4, 150))

    def test_wrong_letters(self):
        for at, one, other in brute.wrong_pairs():
            with self.assertRaises(InvalidLetters) as caught:
                common(RULE, one, other)
            self.assertEqual(caught.exception.at, at, (one, other))

    def test_by_names_and_again(self):
        for _ in range(2):
            self.assertEqual(common(other="abab", one="babba", rule=RULE), ((1, 0), (1, 2), (4, 0), (4, 2)))
            self.assertEqual(common(RULE, "abab", "babba"), ((0, 1), (0, 4), (2, 1), (2, 4)))


class Least(unittest.TestCase):
    def rules(self, chance):
        rules = brute.all_rules(2, 2, 1) + brute.all_rules(2, 1, 2) + brute.some_rules(chance, 2, 2, 2, 15)
        rules += brute.some_rules(chance, 2, 3, 1, 15) + brute.some_rules(chance, 3, 2, 1, 4)
        rules += [Rule.read("letters 2 w 3 k 1 table " + table) for table in TELLING]
        return rules + [LEX, Rule.by_order(2, 3, 1, ["a", "b"]), Rule.by_order(2, 3, 1, ["b", "a"], True)]

    def test_least_common_against_trying(self):
        chance = random.Random(63)
        told = []
        for rule in self.rules(chance) + brute.some_rules(chance, 2, 3, 2, 3) + brute.some_rules(chance, 2, 4, 1, 2):
            least = rule.k
            while is_parted_somewhere(rule, least, 0):
                least += 1
            self.assertEqual(least_common(rule), least, str(rule))
            self.assertLessEqual(least, rule.w + rule.k - 1)
            told.append(least - rule.k)
        self.assertEqual(sorted(set(told)), [0, 1, 2, 3])

    def test_least_near_against_trying(self):
        chance = random.Random(64)
        told = []
        for rule in self.rules(chance):
            least = rule.k
            while is_parted_somewhere(rule, least, 1):
                least += 1
            self.assertEqual(least_near(rule), least, str(rule))
            self.assertLessEqual(least, 2 * (rule.w + rule.k - 1))
            told.append(least)
        self.assertGreater(len(set(told)), 3)

    def test_rules_that_pick_all_places(self):
        for letters, w, k in brute.COMMON_SIZES:
            self.assertEqual(least_common(Rule(letters, w, k, [w - 1] * letters ** (w + k - 1))), k)
        for letters, w, k in brute.NEAR_SIZES:
            # The letter amid parts all pieces that hold it, so of 2 k letters one piece at least is left.
            self.assertEqual(least_near(Rule(letters, w, k, [0] * letters ** (w + k - 1))), 2 * k)

    def test_windows_of_one_piece(self):
        for letters in (2, 3, 4):
            for k in range(1, 5):
                if letters ** k <= 256:
                    rule = Rule(letters, 1, k, [0] * letters ** k)
                    self.assertEqual(least_common(rule), k)
                    self.assertIsNone(parted(rule, k))
                if letters ** (2 * k) <= 1100:
                    self.assertEqual(least_near(rule), 2 * k)
                    one, other = parted_near(rule, 2 * k - 1)
                    self.assertEqual(differ(one, other), 1)
                    self.assertIsNone(parted_near(rule, 2 * k))

    def test_by_name_and_again(self):
        for _ in range(2):
            self.assertEqual(least_common(rule=RULE), 2)
            self.assertEqual(least_common(LEX), 3)
            self.assertEqual(least_near(rule=RULE), 4)
            self.assertEqual(RULE, Rule(2, 2, 1, [0, 0, 1, 0]))


class Parted(unittest.TestCase):
    def check(self, chance, rule, t, pair, most):
        self.assertIs(pair.__class__, tuple)
        self.assertEqual(len(pair), 2)
        begin = rule.w - 1
        for text in pair:
            self.assertEqual(len(text), t + 2 * begin, (str(rule), t, pair))
            self.assertEqual(set(text) - set("abcd"[:rule.letters]), set())
        one, other = pair
        self.assertLessEqual(differ(one[begin:begin + t], other[begin:begin + t]), most)
        self.assertEqual(stretch_picks(rule, one, t) & stretch_picks(rule, other, t), set(), (str(rule), t, pair))
        for _ in range(3):
            self.around(chance, rule, t, one, other)

    def around(self, chance, rule, t, one, other):
        """No common pick either with more letters on both sides."""
        size = rule.w + rule.k
        seen = []
        for text in (one, other):
            row = brute.some_text(chance, rule.letters, size) + text + brute.some_text(chance, rule.letters, size)
            first = size + rule.w - 1
            inner = [at for at in picks(rule, row) if first <= at <= first + t - rule.k]
            seen.append({(at, row[at:at + rule.k]) for at in inner})
        self.assertEqual(seen[0] & seen[1], set(), (str(rule), t, one, other))

    def test_all_lengths_of_the_range(self):
        chance = random.Random(65)
        for rule in some_rules(chance, brute.COMMON_SIZES, 2):
            least = least_common(rule)
            for t in range(rule.k, rule.w + rule.k):
                pair = parted(rule, t)
                if t >= least:
                    self.assertIsNone(pair)
                else:
                    self.check(chance, rule, t, pair, 0)

    def test_all_lengths_of_the_range_with_one_letter_otherwise(self):
        chance = random.Random(66)
        for rule in some_rules(chance, brute.NEAR_SIZES, 1):
            least = least_near(rule)
            for t in range(rule.k, 2 * (rule.w + rule.k - 1) + 1):
                pair = parted_near(rule, t)
                if t >= least:
                    self.assertIsNone(pair)
                else:
                    self.check(chance, rule, t, pair, 1)

    def test_lengths_without_a_letter_otherwise(self):
        chance = random.Random(67)
        for rule in brute.all_rules(2, 2, 1) + brute.some_rules(chance, 2, 3, 1, 10):
            for t in range(rule.k, rule.w + rule.k):
                if parted(rule, t) is not None:
                    self.assertIsNotNone(parted_near(rule, t))
            self.assertLessEqual(least_common(rule), least_near(rule))

    def test_by_names_and_again(self):
        chance = random.Random(68)
        for _ in range(2):
            self.assertIsNone(parted(t=2, rule=RULE))
            self.assertIsNone(parted_near(t=4, rule=RULE))
            self.check(chance, RULE, 1, parted(t=1, rule=RULE), 0)
            self.assertEqual(parted(RULE, 1), parted(rule=RULE, t=1))
            self.check(chance, RULE, 3, parted_near(t=3, rule=RULE), 1)
            self.assertEqual(parted_near(RULE, 3), parted_near(rule=RULE, t=3))


class Examples(unittest.TestCase):
    def test_those_of_the_document(self):
        self.assertEqual(
            (common(RULE, "babba", "abab"), least_common(RULE), least_common(LEX), parted(RULE, 2),
             len(parted(RULE, 1)[0])),
            (((1, 0), (1, 2), (4, 0), (4, 2)), 2, 3, None, 3))
        self.assertEqual(least_common(Rule(2, 2, 1, [0, 0, 0, 0])), 1)
        self.assertEqual((least_near(RULE), parted_near(RULE, 4), least_near(ALL)), (4, None, 2))
