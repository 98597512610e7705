import itertools
import math
import random
import unittest

from tests import brute
from windowpicks.errors import InvalidLetters, InvalidLot
from windowpicks.picks import picks
from windowpicks.rules import Rule, is_forward
from windowpicks.shares import even_share, greatest_share, heights, heights_hold, least_share, ring, share

RULE = Rule.by_order(2, 2, 1, ["a", "b"])
LEX = Rule.by_order(2, 2, 2, ["aa", "ab", "ba", "bb"])
SMALL = [(2, 1, 1), (2, 1, 2), (2, 2, 1), (2, 1, 3), (2, 2, 2), (2, 3, 1), (3, 1, 1), (3, 1, 2), (3, 2, 1), (4, 1, 1)]


def lots(chance, letters, k):
    """No piece, some pieces, and all of them."""
    pieces = brute.all_texts(letters, k)
    return [(), []] + [brute.some_lot(chance, letters, k, chance.randrange(1, len(pieces))) for _ in range(4)] + [pieces]


def is_right(rule, share, is_greatest, paper, lot=()):
    """A second look at what the document says of right heights."""
    p, q = share
    length = 2 * rule.w + rule.k - 2
    height = dict(zip(brute.all_texts(rule.letters, length - 1), paper))
    for text in brute.all_texts(rule.letters, length):
        if not any(text[at:at + rule.k] in lot for at in range(length - rule.k + 1)):
            c = 1 if brute.is_picked_amid(rule, text) else 0
            rise = height[text[1:]] - height[text[:-1]]
            if is_greatest and rise < q * c - p or not is_greatest and rise > q * c - p:
                return False
    return True


class EvenShare(unittest.TestCase):
    def test_against_all_texts_around_a_place(self):
        chance = random.Random(40)
        for letters, w, k in brute.SHARE_SIZES:
            for rule in brute.some_rules(chance, letters, w, k, 2):
                texts = brute.all_texts(letters, 2 * w + k - 2)
                there = sum(brute.is_picked_amid(rule, text) for text in texts)
                found = even_share(rule)
                self.assertEqual(found, brute.value(there, len(texts)), str(rule))
                self.assertIs(found.__class__, tuple)
                self.assertEqual([type(part) for part in found], [int, int])

    def test_lowest_terms(self):
        for rule in brute.all_rules(2, 2, 1) + brute.all_rules(2, 1, 2):
            p, q = even_share(rule)
            self.assertEqual(math.gcd(p, q), 1)
        self.assertEqual(even_share(Rule(2, 2, 1, [0] * 4)), (1, 1))
        self.assertEqual(even_share(Rule(4, 1, 4, [0] * 256)), (1, 1))

    def test_forward_rules_by_the_two_windows_of_a_text(self):
        chance = random.Random(41)
        rules = brute.all_rules(2, 2, 1) + brute.all_rules(2, 2, 2) + brute.all_rules(2, 1, 3)
        for letters, w, k in brute.SHARE_SIZES:
            pieces = brute.all_texts(letters, k)
            for last in [False, True]:
                rules.append(Rule.by_order(letters, w, k, chance.sample(pieces, len(pieces)), last))
        count = 0
        for rule in rules:
            if is_forward(rule):
                table = brute.offsets(rule)
                texts = brute.all_texts(rule.letters, rule.w + rule.k)
                other = [text for text in texts if table[text[:-1]] != table[text[1:]] + 1]
                self.assertEqual(even_share(rule), brute.value(len(other), len(texts)), str(rule))
                count += 1
        self.assertGreater(count, 100)

    def test_by_name_and_again(self):
        for _ in range(2):
            self.assertEqual(even_share(rule=RULE), (3, 4))
            self.assertEqual(even_share(LEX), (3, 4))


class Share(unittest.TestCase):
    def test_all_short_texts(self):
        chance = random.Random(42)
        for letters, w, k in SMALL + [(2, 5, 4), (2, 4, 1), (2, 1, 4)]:
            for rule in brute.some_rules(chance, letters, w, k, 2):
                for length in range(1, 6):
                    for text in brute.all_texts(letters, length):
                        self.assertEqual(share(rule, text), brute.share(rule, text), (str(rule), text))

    def test_against_the_picks_of_a_long_repetition(self):
        chance = random.Random(43)
        sizes = brute.SIZES
        for length in range(1, 101):
            letters, w, k = sizes[length % len(sizes)]
            rule = brute.some_rules(chance, letters, w, k, 1)[0]
            text = brute.some_text(chance, letters, length)
            row, begin = brute.repeated(rule, text)
            there = [at for at in picks(rule, row) if begin <= at < begin + length]
            found = share(rule, text)
            self.assertEqual(found, brute.value(len(there), length), (str(rule), text))
            self.assertEqual(found, brute.share(rule, text))
            self.assertIs(found.__class__, tuple)

    def test_turned_round_and_written_twice(self):
        chance = random.Random(44)
        for letters, w, k in brute.SIZES:
            for rule in brute.some_rules(chance, letters, w, k, 2):
                text = brute.some_text(chance, letters, chance.randrange(1, 40))
                found = share(rule, text)
                at = chance.randrange(len(text))
                self.assertEqual(share(rule, text[at:] + text[:at]), found)
                self.assertEqual(share(rule, text + text), found)
                self.assertEqual(share(rule, text * 3), found)

    def test_a_repeated_letter(self):
        chance = random.Random(45)
        for letters, w, k in brute.SIZES:
            rule = brute.some_rules(chance, letters, w, k, 1)[0]
            for letter in "abcd"[:letters]:
                for length in [1, 2, 7, 300]:
                    self.assertEqual(share(rule, letter * length), (1, 1))

    def test_the_longest_texts(self):
        rule = Rule.by_order(2, 5, 1, ["a", "b"])
        self.assertEqual(share(rule, "abbbb" * 60), (1, 5))
        self.assertEqual(share(rule, "b" + "a" * 299), (299, 300))

    def test_wrong_letters(self):
        for text, at in [("c", 0), ("ac", 1), ("abac", 3), ("a b", 1), ("ab\n", 2), ("A", 0), ("a" * 299 + "d", 299)]:
            with self.assertRaises(InvalidLetters) as caught:
                share(RULE, text)
            self.assertEqual(caught.exception.at, at)
        for value in brute.any_values() + [["a", "b"], b"ab"]:
            if not isinstance(value, str):
                with self.assertRaises(InvalidLetters) as caught:
                    share(RULE, value)
                self.assertEqual(caught.exception.at, 0)

    def test_by_names_and_again(self):
        for _ in range(2):
            self.assertEqual(share(text="bba", rule=RULE), (2, 3))
            self.assertEqual(share(RULE, "ba"), (1, 2))


class Utmost(unittest.TestCase):
    """The greatest and the least share, and the rings that have them."""

    def check_ring(self, rule, is_greatest, lot, expected):
        found = ring(rule, is_greatest, lot)
        if expected is None:
            self.assertIsNone(found)
        else:
            self.assertIs(found.__class__, str)
            self.assertGreater(len(found), 0)
            self.assertEqual(set(found) - set("abcd"[:rule.letters]), set())
            self.assertTrue(brute.is_free(rule.k, found, lot), (str(rule), lot, found))
            self.assertEqual(brute.share(rule, found), expected, (str(rule), lot, found))

    def check(self, rule, lot, texts):
        """Against all of these texts; they go round all rings of standings."""
        shares = [brute.share(rule, text) for text in texts if brute.is_free(rule.k, text, lot)]
        greatest = least = None
        for one in shares:
            if greatest is None or brute.is_above(one, greatest):
                greatest = one
            if least is None or brute.is_above(least, one):
                least = one
        self.assertEqual(greatest_share(rule, lot), greatest, (str(rule), lot))
        self.assertEqual(least_share(rule, lot), least, (str(rule), lot))
        self.check_ring(rule, True, lot, greatest)
        self.check_ring(rule, False, lot, least)

    def test_against_trying(self):
        chance = random.Random(46)
        for letters, w, k in [(2, 1, 1), (2, 2, 1), (2, 1, 2), (2, 1, 3), (3, 1, 1), (4, 1, 1), (3, 1, 2)]:
            many = letters ** (2 * w + k - 3)
            texts = [text for length in range(1, many + 1) for text in brute.all_texts(letters, length)]
            pieces = brute.all_texts(letters, k)
            lots = [lot for size in range(len(pieces) + 1) for lot in itertools.combinations(pieces, size)]
            rules = brute.all_rules(letters, w, k)
            for rule in rules:
                for lot in lots if len(lots) < 20 else chance.sample(lots, 20):
                    self.check(rule, lot, texts)

    def test_against_trying_with_longer_rings(self):
        chance = random.Random(47)
        texts = [text for length in range(1, 9) for text in brute.all_texts(2, length)]
        for rule in [LEX] + brute.some_rules(chance, 2, 2, 2, 6):
            for lot in lots(chance, 2, 2):
                self.check(rule, lot, texts)

    def test_all_sizes_by_rings_and_heights(self):
        chance = random.Random(48)
        for letters, w, k in brute.SHARE_SIZES:
            rule = brute.some_rules(chance, letters, w, k, 1)[0]
            pieces = brute.all_texts(letters, k)
            for lot in [(), brute.some_lot(chance, letters, k, len(pieces) // 3)]:
                for is_greatest, work in [(True, greatest_share), (False, least_share)]:
                    told = work(rule, lot)
                    self.check_ring(rule, is_greatest, lot, told)
                    if told is not None:
                        self.assertEqual(told, brute.value(*told))
                        self.assertIs(told.__class__, tuple)
                        paper = heights(rule, told, is_greatest, lot)
                        self.assertTrue(is_right(rule, told, is_greatest, paper, lot))

    def test_no_drawn_text_is_beyond_them(self):
        chance = random.Random(49)
        for letters, w, k in brute.SHARE_SIZES:
            for rule in brute.some_rules(chance, letters, w, k, 2):
                lot = brute.some_lot(chance, letters, k, chance.randrange(3))
                for _ in range(15):
                    text = brute.some_text(chance, letters, chance.randrange(1, 30))
                    if brute.is_free(k, text, lot):
                        told = share(rule, text)
                        self.assertFalse(brute.is_above(told, greatest_share(rule, lot)))
                        self.assertFalse(brute.is_above(least_share(rule, lot), told))

    def test_without_a_lot_the_greatest_share_is_one(self):
        chance = random.Random(50)
        for letters, w, k in brute.SHARE_SIZES:
            for rule in brute.some_rules(chance, letters, w, k, 2):
                self.assertEqual(greatest_share(rule), (1, 1))
                self.assertEqual(greatest_share(rule, []), (1, 1))

    def test_known_least_shares(self):
        for w in range(2, 5):
            rule = Rule.by_order(2, w, 1, ["a", "b"])
            # A pick stands in each window, and an a behind w - 1 letters b is the only one there.
            self.assertEqual(least_share(rule), (1, w))
            self.assertEqual(sorted(ring(rule, False)), ["a"] + ["b"] * (w - 1))
            self.assertEqual(least_share(Rule(2, w, 1, [w - 1] * 2 ** w)), (1, 1))

    def test_lots_that_each_endless_text_meets(self):
        for rule, lot in [
                (LEX, ["aa", "ab", "bb"]), (LEX, ["aa", "ba", "bb"]), (LEX, ["bb", "ba", "ab", "aa"]),
                (RULE, ["a", "b"]), (Rule(2, 1, 1, [0, 0]), ("b", "a")),
                (Rule(2, 1, 3, [0] * 8), ["aaa", "bbb", "aba", "abb"])]:
            self.assertIsNone(greatest_share(rule, lot))
            self.assertIsNone(least_share(rule, lot))
            self.assertIsNone(ring(rule, True, lot))
            self.assertIsNone(ring(rule, False, lot))

    def test_a_lot_that_leaves_few_texts(self):
        self.assertEqual((greatest_share(RULE, ["a"]), least_share(RULE, ["a"])), ((1, 1), (1, 1)))
        self.assertEqual(set(ring(RULE, True, ["a"])), {"b"})
        self.assertEqual(sorted(ring(LEX, True, ["aa", "bb"])), ["a", "b"])
        self.assertEqual(set(ring(LEX, False, ["ab", "bb"])), {"a"})

    def test_by_names_lists_and_tuples_and_again(self):
        lot = ["aa"]
        for _ in range(2):
            self.assertEqual(greatest_share(lot=lot, rule=LEX), (1, 1))
            self.assertEqual(least_share(lot=("aa",), rule=LEX), (1, 2))
            self.assertEqual(greatest_share(LEX, ("aa", "bb")), (1, 2))
            self.assertEqual(least_share(rule=LEX), least_share(LEX, ()))
            found = ring(lot=lot, is_greatest=False, rule=LEX)
            self.assertEqual(found, ring(LEX, False, lot))
            self.assertEqual(ring(rule=LEX, is_greatest=True), ring(LEX, True, []))
        self.assertEqual(lot, ["aa"])
        self.assertEqual(LEX.table, (0, 0, 0, 0, 1, 1, 1, 0))


class Heights(unittest.TestCase):
    def check(self, rule, value, is_greatest, lot, is_there):
        told = heights(rule, value, is_greatest, lot)
        if not is_there:
            self.assertIsNone(told, (str(rule), value, is_greatest, lot))
            return
        self.assertIs(told.__class__, tuple)
        self.assertEqual([type(height) for height in told], [int] * rule.letters ** (2 * rule.w + rule.k - 3))
        self.assertTrue(is_right(rule, value, is_greatest, told, lot), (str(rule), value, is_greatest, lot))
        self.assertIs(heights_hold(rule, value, is_greatest, told, lot), True)

    def values(self, told):
        """The share itself, such near to it and far from it."""
        p, q = told
        near = [(p, q), (100 * p + 1, 100 * q), (100 * p - 1, 100 * q), (10 ** 9 * p + 1, 10 ** 9 * q), (0, 1),
                (10 ** 9 * p - 1, 10 ** 9 * q), (1, 1), (1, 2), (3, 2), (-1, 2), (7, 1), (-7, 1), (10 ** 20, 1)]
        return [brute.value(*one) for one in near]

    def test_they_are_told_just_where_no_text_is_beyond_the_value(self):
        chance = random.Random(51)
        for letters, w, k in SMALL:
            for rule in brute.some_rules(chance, letters, w, k, 2):
                for lot in lots(chance, letters, k):
                    greatest, least = greatest_share(rule, lot), least_share(rule, lot)
                    for value in self.values(greatest or (1, 2)) + self.values(least or (1, 2)):
                        self.check(rule, value, True, lot, greatest is None or not brute.is_above(greatest, value))
                        self.check(rule, value, False, lot, least is None or not brute.is_above(value, least))

    def test_the_greatest_rules(self):
        chance = random.Random(52)
        for letters, w, k in brute.SHARE_SIZES:
            rule = brute.some_rules(chance, letters, w, k, 1)[0]
            p, q = least_share(rule)
            self.check(rule, (p, q), False, (), True)
            self.check(rule, brute.value(1000 * p + 1, 1000 * q), False, (), False)
            self.check(rule, (1, 1), True, (), True)
            self.check(rule, (999, 1000), True, (), False)

    def test_by_names_and_again(self):
        lot = ["aa"]
        for _ in range(2):
            told = heights(lot=lot, is_greatest=False, share=(1, 2), rule=LEX)
            self.assertEqual(told, heights(LEX, (1, 2), False, ("aa",)))
            self.assertIs(heights_hold(lot=lot, value=told, is_greatest=False, share=(1, 2), rule=LEX), True)
            self.assertEqual(heights(share=(1, 1), rule=LEX, is_greatest=True), heights(LEX, (1, 1), True, []))
            self.assertIs(heights_hold(LEX, (1, 1), True, heights(LEX, (1, 1), True)), True)
        self.assertEqual(lot, ["aa"])


class HeightsHold(unittest.TestCase):
    def check(self, rule, value, is_greatest, paper, lot, expected):
        self.assertIs(heights_hold(rule, value, is_greatest, paper, lot), expected, (str(rule), value, paper, lot))

    def test_right_ones_and_such_with_entries_otherwise(self):
        chance = random.Random(53)
        for letters, w, k in SMALL:
            for rule in brute.some_rules(chance, letters, w, k, 2):
                for lot in lots(chance, letters, k):
                    for is_greatest, work in [(True, greatest_share), (False, least_share)]:
                        value = work(rule, lot) or (1, 2)
                        self.around(chance, rule, value, is_greatest, lot)

    def around(self, chance, rule, value, is_greatest, lot):
        told = heights(rule, value, is_greatest, lot)
        for more in [-3, 1, 10 ** 30]:
            self.check(rule, value, is_greatest, tuple(height + more for height in told), lot, True)
        for _ in range(4):
            row = list(told)
            row[chance.randrange(len(row))] += chance.choice([-3, -2, -1, 1, 2, 3])
            self.check(rule, value, is_greatest, tuple(row), lot, is_right(rule, value, is_greatest, row, lot))
            row = list(told)
            one, other = chance.randrange(len(row)), chance.randrange(len(row))
            row[one], row[other] = row[other], row[one]
            self.check(rule, value, is_greatest, tuple(row), lot, is_right(rule, value, is_greatest, row, lot))
        for wrong in [told[:-1], told[1:], told + (0,), told + told, (), list(told), [], str(told), None, told[0]]:
            self.check(rule, value, is_greatest, wrong, lot, False)

    def test_any_paper_against_a_second_look(self):
        chance = random.Random(54)
        counts = {True: 0, False: 0}
        for _ in range(300):
            rule = brute.some_rules(chance, 2, 2, 1, 1)[0]
            paper = tuple(chance.randrange(-2, 3) for _ in range(4))
            value = brute.value(chance.randrange(-1, 6), chance.randrange(1, 5))
            lot = chance.choice([(), ("a",), ("b",)])
            for is_greatest in (True, False):
                expected = is_right(rule, value, is_greatest, paper, lot)
                self.check(rule, value, is_greatest, paper, lot, expected)
                counts[expected] += 1
        self.assertGreater(min(counts.values()), 100)

    def test_heights_of_the_one_sort_are_not_those_of_the_other(self):
        told = heights(RULE, (1, 2), False)
        self.check(RULE, (1, 2), False, told, (), True)
        self.check(RULE, (1, 2), True, told, (), False)
        self.check(RULE, (1, 1), True, told, (), is_right(RULE, (1, 1), True, told))

    def test_only_texts_without_a_piece_of_the_lot_count(self):
        told = heights(LEX, (1, 2), True, ["aa", "bb"])
        self.check(LEX, (1, 2), True, told, ["aa", "bb"], True)
        self.check(LEX, (1, 2), True, told, (), False)
        self.check(LEX, (1, 2), True, (0,) * 8, ["aa", "ab", "ba", "bb"], True)
        self.check(LEX, (-5, 2), True, (0,) * 8, ["aa", "ab", "ba", "bb"], True)

    def test_any_values(self):
        for rule in [RULE, LEX, Rule(2, 1, 1, [0, 0])]:
            many = 2 ** (2 * rule.w + rule.k - 3)
            for value in brute.any_values() + [b"", {}]:
                self.check(rule, (1, 1), True, value, (), False)
                self.check(rule, (1, 1), False, value, (), False)
                if value.__class__ is not int:
                    for at in range(many):
                        row = [0] * many
                        row[at] = value
                        # Only the entry is wrong: there is no share above 2 and none below -1.
                        self.check(rule, (2, 1), True, tuple(row), (), False)
                        self.check(rule, (-1, 1), False, tuple(row), (), False)
                        self.check(rule, (2, 1), True, tuple(row), brute.all_texts(2, rule.k), False)
            self.check(rule, (2, 1), True, (0,) * many, (), True)
            self.check(rule, (-1, 1), False, (0,) * many, (), True)


class WrongLots(unittest.TestCase):
    def works(self, rule):
        return [
            lambda lot: greatest_share(rule, lot),
            lambda lot: least_share(rule, lot),
            lambda lot: ring(rule, True, lot),
            lambda lot: ring(rule, False, lot),
            lambda lot: heights(rule, (1, 1), True, lot),
            lambda lot: heights(rule, (0, 1), False, lot),
            lambda lot: heights_hold(rule, (1, 1), True, (0,) * 8, lot),
            lambda lot: heights_hold(rule, (1, 1), True, None, lot),
            lambda lot: heights_hold(rule, (1, 1), False, [0], lot),
        ]

    def wrong(self, at, rule, lot):
        for work in self.works(rule):
            with self.assertRaises(InvalidLot) as caught:
                work(lot)
            self.assertEqual(caught.exception.at, at, lot)

    def test_what_is_no_sequence(self):
        for value in brute.any_values() + [{"aa": True}, {"aa"}, b"aa", "aa", "aabb"]:
            if not isinstance(value, (list, tuple)):
                self.wrong(0, LEX, value)

    def test_what_is_no_piece(self):
        for value in brute.any_values() + [["aa"], ("aa",), b"aa", "aA", "a", "aaa", "", "ac", "ca", "a\n", " aa", "cd"]:
            if value != "ab":
                self.wrong(0, LEX, [value])
                self.wrong(1, LEX, ("bb", value))
                self.wrong(2, LEX, ["ab", "aa", value, value])
                self.wrong(0, LEX, (value, "aa", "aa"))

    def test_a_piece_that_was_there_before(self):
        self.wrong(1, LEX, ["aa", "aa"])
        self.wrong(2, LEX, ("aa", "ab", "aa"))
        self.wrong(4, LEX, ["aa", "ab", "ba", "bb", "ba"])
        self.wrong(2, LEX, ("aa", "ab", "aa", "zz"))
        self.wrong(1, LEX, ("aa", "zz", "aa"))

    def test_the_alphabet_and_the_length_of_pieces(self):
        for letters, w, k in [(2, 2, 1), (3, 2, 1), (4, 1, 1), (2, 1, 4), (3, 1, 2), (4, 2, 2)]:
            rule = Rule(letters, w, k, [0] * letters ** (w + k - 1))
            self.wrong(1, rule, ["a" * k, "a" * (k - 1) + "abcde"[letters]])
            self.wrong(1, rule, ["a" * k, "a" * (k + 1)])
            self.wrong(1, rule, ["a" * k, "a" * (k - 1)])
            self.assertEqual(greatest_share(rule, ["a" * k]), (1, 1))

    def test_right_lots_raise_nothing(self):
        for lot in [(), [], ["aa"], ("bb", "aa"), ["bb", "ba", "ab", "aa"]]:
            for work in self.works(LEX):
                work(lot)


class Limits(unittest.TestCase):
    def test_the_greatest_lots(self):
        chance = random.Random(55)
        for letters, w, k in [(2, 1, 4), (2, 2, 4), (2, 3, 4), (3, 1, 3), (3, 2, 3), (4, 1, 2), (4, 2, 2)]:
            pieces = brute.all_texts(letters, k)
            rule = brute.some_rules(chance, letters, w, k, 1)[0]
            for many in [1, len(pieces) // 2, len(pieces) - 1, len(pieces)]:
                lot = chance.sample(pieces, many)
                for is_greatest, work in [(True, greatest_share), (False, least_share)]:
                    told = work(rule, lot)
                    found = ring(rule, is_greatest, lot)
                    self.assertEqual(told is None, found is None)
                    if told is not None:
                        self.assertEqual(share(rule, found), told)
                        self.assertTrue(brute.is_free(k, found, lot))
                        paper = heights(rule, told, is_greatest, lot)
                        self.assertTrue(heights_hold(rule, told, is_greatest, paper, lot))

    def test_somewhat_beyond_them(self):
        rule = Rule.by_order(2, 4, 3, brute.all_texts(2, 3))
        self.assertEqual(share(rule, ring(rule, False)), least_share(rule))
        self.assertEqual(len(heights(rule, (1, 1), True)), 256)


class Examples(unittest.TestCase):
    def test_those_of_the_document(self):
        self.assertEqual(
            (RULE.table, picks(RULE, "babba"), even_share(RULE), greatest_share(RULE), least_share(RULE)),
            ((0, 0, 1, 0), (1, 2, 4), (3, 4), (1, 1), (1, 2)))
        self.assertEqual(
            (share(RULE, "ba"), share(RULE, "bba"), even_share(LEX),
             heights_hold(RULE, (1, 1), True, heights(RULE, (1, 1), True)), heights(RULE, (3, 4), True),
             heights(RULE, (1, 2), False) is None),
            ((1, 2), (2, 3), (3, 4), True, None, False))
        self.assertEqual(
            (greatest_share(LEX, ["aa", "bb"]), greatest_share(LEX, ["aa"]), least_share(LEX, ["aa"]),
             ring(LEX, True, ["aa", "ab", "bb"])),
            ((1, 2), (1, 1), (1, 2), None))
