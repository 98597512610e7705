import random
import unittest

from tests import brute
from windowpicks.common import least_common
from windowpicks.errors import InvalidLetters
from windowpicks.picks import picked
from windowpicks.rules import Rule
from windowpicks.telling import count_with, surely_shared, texts_with

RULE = Rule.by_order(2, 2, 1, ["a", "b"])
LEX = Rule.by_order(2, 2, 2, ["aa", "ab", "ba", "bb"])


def told_of(rule, text):
    return tuple((place, text[place:place + rule.k]) for place in brute.places(rule, text))


def count_by_growing(rule, length, told):
    """The number of the texts, letter by letter; each place is looked at when all windows with it are there.

    What is kept of a text is where its last letters begin, and these, as far as places hang on them.
    """
    size = rule.w + rule.k - 1
    known = dict(told)
    table = brute.offsets(rule)

    def is_right(begin, end, place):
        windows = range(max(0, place - rule.w + 1), min(place, length - size) + 1)
        there = any(at + table[end[at - begin:at - begin + size]] == place for at in windows)
        piece = end[place - begin:place - begin + rule.k]
        return there == (place in known) and (not there or known[place] == piece)

    ways = {(0, ""): 1}
    for at in range(length):
        onward = {}
        for (begin, end), many in ways.items():
            for letter in "abcd"[:rule.letters]:
                row = end + letter
                if at >= size - 1 and not is_right(begin, row, at - size + 1):
                    continue
                kept = max(begin, at + 1 - (size - 1 + rule.w - 1))
                key = kept, row[kept - begin:]
                onward[key] = onward.get(key, 0) + many
        ways = onward
    last = range(max(0, length - size + 1), length)
    total = sum(
        many for (begin, end), many in ways.items() if all(is_right(begin, end, place) for place in last))
    return total if all(0 <= place < length for place in known) else 0


def otherwise(chance, rule, length, told):
    """Picks with one less, one more, another place, another piece, and a place behind the end."""
    found = []
    row = list(told)
    if row:
        at = chance.randrange(len(row))
        place, piece = row[at]
        found.append(row[:at] + row[at + 1:])
        found.append(row[:at] + [(place, brute.some_text(chance, rule.letters, rule.k))] + row[at + 1:])
        found.append(row[:at] + [(place + 1, piece)] + row[at + 1:])
    free = [place for place in range(length + 2) if place not in dict(row)]
    for place in chance.sample(free, 2) + [length - rule.k, length - rule.k + 1, length, length + 5]:
        if place >= 0 and place not in dict(row):
            found.append(sorted(row + [(place, brute.some_text(chance, rule.letters, rule.k))]))
    places = [[place for place, _ in one] for one in found]
    return [one for one, row in zip(found, places) if row == sorted(set(row))]


def some_rules(chance, many):
    rules = [RULE, LEX, Rule(2, 5, 4, [at % 5 for at in range(256)]), Rule.by_order(2, 5, 1, ["a", "b"])]
    for letters, w, k in brute.SIZES:
        rules += brute.some_rules(chance, letters, w, k, many)
        pieces = brute.all_texts(letters, k)
        rules.append(Rule.by_order(letters, w, k, chance.sample(pieces, len(pieces))))
    return rules


class TextsWith(unittest.TestCase):
    def check(self, rule, length, told, by_picks):
        expected = tuple(by_picks.get(tuple(told), []))
        found = texts_with(rule, length, told)
        self.assertEqual(found, expected, (str(rule), length, told))
        self.assertIs(found.__class__, tuple)
        self.assertEqual(texts_with(rule, length, tuple(told)), expected)
        self.assertEqual(count_with(rule, length, list(told)), len(expected))
        self.assertEqual(count_with(rule, length, tuple(told)), len(expected))

    def by_picks(self, rule, length):
        found = {}
        for text in brute.all_texts(rule.letters, length):
            found.setdefault(told_of(rule, text), []).append(text)
        return found

    def test_all_picks_of_short_texts(self):
        chance = random.Random(120)
        for letters, w, k in [(2, 1, 1), (2, 2, 1), (2, 3, 1), (2, 2, 2), (2, 3, 2), (3, 2, 1), (2, 5, 1), (2, 1, 3)]:
            for rule in brute.some_rules(chance, letters, w, k, 2):
                for length in range(7 if letters == 2 else 5):
                    by_picks = self.by_picks(rule, length)
                    for told in list(by_picks):
                        self.check(rule, length, told, by_picks)
                        for one in otherwise(chance, rule, length, told):
                            self.check(rule, length, one, by_picks)

    def test_texts_up_to_ten_letters(self):
        chance = random.Random(121)
        for at, rule in enumerate(some_rules(chance, 1)):
            length = 10 if at < 4 else {2: 8, 3: 5, 4: 4}[rule.letters]
            by_picks = self.by_picks(rule, length)
            for told in chance.sample(sorted(by_picks), min(len(by_picks), 6)):
                self.check(rule, length, told, by_picks)
                for one in otherwise(chance, rule, length, told):
                    self.check(rule, length, one, by_picks)

    def test_all_texts_without_picks(self):
        for rule in [RULE, LEX, Rule(2, 5, 4, [0] * 256), Rule(4, 2, 2, [0] * 64)]:
            size = rule.w + rule.k - 1
            for length in range(size):
                self.assertEqual(texts_with(rule, length, []), tuple(brute.all_texts(rule.letters, length)))
                self.assertEqual(count_with(rule, length, ()), rule.letters ** length)
                self.assertEqual(texts_with(rule, length, [(0, "a" * rule.k)]), ())
            self.assertEqual(texts_with(rule, size, []), ())
            self.assertEqual(count_with(rule, 60, []), 0)

    def test_pieces_that_do_not_fit_together(self):
        self.assertEqual(texts_with(LEX, 4, [(0, "ab"), (1, "aa"), (2, "ab")]), ())
        self.assertEqual(count_with(LEX, 4, [(0, "ab"), (1, "aa"), (2, "ab")]), 0)

    def test_picks_that_are_none(self):
        """No text has such picks, so none is told."""
        for told in [[(1, "a"), (0, "a")], [(0, "a"), (0, "a"), (2, "a")], [(0, "c"), (2, "a")], [(0, "aa"), (2, "a")]]:
            self.assertEqual(texts_with(RULE, 3, told), ())
            self.assertEqual(count_with(RULE, 3, told), 0)

    def test_by_names_and_again(self):
        told = [(0, "a"), (2, "a")]
        for _ in range(2):
            self.assertEqual(texts_with(told=told, length=3, rule=RULE), ("aba",))
            self.assertEqual(count_with(told=told, length=3, rule=RULE), 1)
        self.assertEqual(told, [(0, "a"), (2, "a")])


class CountWith(unittest.TestCase):
    def test_lengths_to_sixty(self):
        chance = random.Random(122)
        greatest = 0
        for rule in some_rules(chance, 1):
            for length in [chance.randrange(11, 40), 60]:
                text = brute.some_text(chance, rule.letters, length)
                told = told_of(rule, text)
                many = count_with(rule, length, told)
                self.assertEqual(many, count_by_growing(rule, length, told), (str(rule), length, told))
                self.assertGreaterEqual(many, 1)
                greatest = max(greatest, many)
                for one in otherwise(chance, rule, length, told):
                    found = count_with(rule, length, one)
                    self.assertEqual(found, count_by_growing(rule, length, one), (str(rule), length, one))
        self.assertGreater(greatest, 1000)

    def test_the_second_way_to_count(self):
        """That it is right itself."""
        chance = random.Random(123)
        for letters, w, k in [(2, 2, 1), (2, 3, 2), (3, 2, 1), (2, 4, 1)]:
            for rule in brute.some_rules(chance, letters, w, k, 2):
                texts = [told_of(rule, text) for text in brute.all_texts(letters, 6)]
                for told in chance.sample(texts, 10):
                    self.assertEqual(count_by_growing(rule, 6, told), texts.count(told))

    def test_known_numbers(self):
        first = Rule(2, 2, 1, [0, 0, 0, 0])
        told = tuple((place, "a") for place in range(59))
        # All places but the last one are picked: so the last letter is any.
        self.assertEqual(count_with(first, 60, told), 2)
        self.assertEqual(count_with(first, 60, told[:-1]), 0)
        wide = Rule.by_order(2, 5, 1, ["a", "b"])
        # Behind the last pick four letters are any.
        self.assertEqual(count_with(wide, 60, picked(wide, "abbbb" * 12)), 16)


class SurelyShared(unittest.TestCase):
    def check(self, rule, one, other, least):
        lengths = [0] + [
            len(one[begin:end]) for begin in range(len(one)) for end in range(begin + least, len(one) + 1)
            if one[begin:end] in other]
        for ours, theirs in [(one, other), (other, one)]:
            self.assertEqual(surely_shared(rule, ours, theirs), max(lengths), (str(rule), ours, theirs))
        return max(lengths)

    def test_against_all_stretches(self):
        chance = random.Random(124)
        told = []
        for letters, w, k in brute.COMMON_SIZES:
            for rule in brute.some_rules(chance, letters, w, k, 1):
                least = least_common(rule)
                for length in [0, 1, least, 12, 40]:
                    one = brute.some_text(chance, letters, length)
                    other = brute.some_text(chance, letters, chance.randrange(40))
                    told.append(self.check(rule, one, other, least))
                    told.append(self.check(rule, one, one, least))
                    at = chance.randrange(len(other) + 1)
                    told.append(self.check(rule, one, other[:at] + one[length // 3:] + other[at:], least))
        self.assertGreater(told.count(0), 50)
        self.assertEqual(max(told), 40)

    def test_stretches_that_are_just_too_short(self):
        # A stretch of three letters is needed.
        self.assertEqual(least_common(LEX), 3)
        self.assertEqual(surely_shared(LEX, "bbab", "aba"), 0)
        self.assertEqual(surely_shared(LEX, "aabb", "babb"), 3)
        self.assertEqual(surely_shared(LEX, "", ""), 0)
        self.assertEqual(surely_shared(LEX, "abab" * 75, "baba" * 75), 299)

    def test_wrong_letters(self):
        for at, one, other in brute.wrong_pairs():
            with self.assertRaises(InvalidLetters) as caught:
                surely_shared(RULE, one, other)
            self.assertEqual(caught.exception.at, at, (one, other))

    def test_by_names_and_again(self):
        for _ in range(2):
            self.assertEqual(surely_shared(other="abab", one="babba", rule=RULE), 3)
            self.assertEqual(surely_shared(LEX, "abb", "bba"), 0)


class Examples(unittest.TestCase):
    def test_those_of_the_document(self):
        self.assertEqual(
            (texts_with(RULE, 3, [(0, "a"), (2, "a")]), count_with(RULE, 60, [(0, "a"), (2, "a")]),
             surely_shared(RULE, "babba", "abab"), surely_shared(LEX, "abb", "bba")),
            (("aba",), 0, 3, 0))
