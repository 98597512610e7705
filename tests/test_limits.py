"""Answers at the largest sizes that the document lets are those of trying; errors are the same beyond them."""

import random
import unittest

from tests import brute
from windowpicks.bounds import bound, is_met
from windowpicks.common import common, least_common, least_near, parted, parted_near
from windowpicks.comparing import alike, no_more, parting
from windowpicks.edits import greatest_moved, most_moved, moved
from windowpicks.errors import InvalidLetters, InvalidLot, InvalidOrder, InvalidRule
from windowpicks.live import Live
from windowpicks.lots import count_free, free_text, least_lot, longest_free, meets_all, rule_within
from windowpicks.orders import best_share, order_share
from windowpicks.picks import gap, is_picked, picked, picks
from windowpicks.rules import Rule, is_forward, order_of
from windowpicks.shares import even_share, greatest_share, heights, heights_hold, least_share, ring, share
from windowpicks.telling import count_with, surely_shared, texts_with

# The sizes at the limits: rules, and what is told of rules.
WIDEST = [(2, 5, 4), (2, 4, 4), (4, 4, 1), (4, 1, 4), (3, 5, 1), (3, 3, 3), (3, 2, 4), (4, 3, 2)]
WIDE_SHARES = [(2, 3, 4), (2, 4, 2), (3, 3, 1), (3, 2, 3), (4, 2, 2), (4, 1, 4), (2, 1, 4), (2, 4, 1)]
WIDE_COMMON = [(2, 3, 4), (2, 4, 1), (3, 2, 3), (3, 3, 1), (4, 2, 2), (2, 2, 4)]
WIDE_EDITS = [(2, 3, 2), (2, 2, 4), (3, 2, 2), (4, 2, 1), (2, 1, 4), (3, 1, 4), (2, 3, 1)]
BEYOND = [(2, 5, 4), (3, 4, 2), (4, 3, 2)]


def some_rules(chance, sizes):
    """A drawn rule of each size, and one by an order."""
    for letters, w, k in sizes:
        pieces = brute.all_texts(letters, k)
        yield brute.some_rules(chance, letters, w, k, 1)[0]
        yield Rule.by_order(letters, w, k, chance.sample(pieces, len(pieces)), chance.random() < 0.5)


def within(sizes, most, length):
    return [size for size in sizes if size[0] ** length(*size[1:]) <= most]


def arounds(rule):
    """Whether a place is picked, for each text around it."""
    texts = brute.all_texts(rule.letters, 2 * rule.w + rule.k - 2)
    return {text: brute.is_picked_amid(rule, text) for text in texts}


def gap_by_walking(rule):
    there = arounds(rule)
    left = {text[1:] for text in there if there[text]}
    distance = 0
    while left:
        distance += 1
        reached = {end + letter for end in left for letter in "abcd"[:rule.letters]}
        left = {text[1:] for text in reached if not there[text]}
    return distance


def least_by_walking(rule, sign, lot):
    """The least (with -1 the greatest) mean of the picks round a ring of texts around places, by Karp's theorem."""
    there = {
        text: sign * int(is_there) for text, is_there in arounds(rule).items()
        if not any(piece in text for piece in lot)}
    ends = brute.all_texts(rule.letters, 2 * rule.w + rule.k - 3)
    rows = [dict.fromkeys(ends, 0)]
    for _ in ends:
        row = {}
        for text, one in there.items():
            if text[:-1] in rows[-1]:
                total = rows[-1][text[:-1]] + one
                row[text[1:]] = min(row.get(text[1:], total), total)
        rows.append(row)
    many = len(ends)
    means = []
    for end, total in rows[-1].items():
        greatest = None
        for steps in range(many):
            mean = brute.value(total - rows[steps][end], many - steps)
            if greatest is None or brute.is_above(mean, greatest):
                greatest = mean
        means.append(greatest)
    least = None
    for mean in means:
        if least is None or brute.is_above(least, mean):
            least = mean
    return least and brute.value(sign * least[0], least[1])


class Rules(unittest.TestCase):
    def test_windows_and_turned_rules(self):
        chance = random.Random(150)
        for rule in some_rules(chance, WIDEST):
            windows = brute.all_texts(rule.letters, rule.w + rule.k - 1)
            table = dict(zip(windows, rule.table))
            backwards = tuple(rule.w - 1 - table[window[::-1]] for window in windows)
            self.assertEqual(rule.turned.table, backwards)
            self.assertEqual(rule.turned.turned, rule)
            forward = all(
                table[text[:-1]] <= table[text[1:]] + 1 for text in brute.all_texts(rule.letters, rule.w + rule.k))
            self.assertIs(is_forward(rule), forward)
            text = brute.some_text(chance, rule.letters, 300)
            self.assertEqual(picks(rule, text), brute.places(rule, text))
            self.assertEqual(picks(rule.turned, text[::-1]), tuple(sorted(300 - rule.k - at for at in picks(rule, text))))

    def test_rules_by_orders(self):
        chance = random.Random(151)
        for letters, w, k in WIDEST:
            pieces = brute.all_texts(letters, k)
            order = chance.sample(pieces, len(pieces))
            for last in (False, True):
                rule = Rule.by_order(letters, w, k, order, last)
                self.assertEqual(rule.table, brute.table_by_order(letters, w, k, order, last))
                self.assertTrue(is_forward(rule))
            rule = Rule.by_order(letters, w, k, order)
            self.assertEqual(Rule.by_order(letters, w, k, order_of(rule)), rule)

    def test_tables_with_one_wrong_entry(self):
        chance = random.Random(152)
        for letters, w, k in WIDEST + [(3, 5, 4)]:
            many = letters ** (w + k - 1)
            for value in [True, False, None, "0", w, -1, [0], (0,), 10 ** 30]:
                table = [0] * many
                table[chance.randrange(many)] = value
                with self.assertRaises(InvalidRule) as caught:
                    Rule(letters, w, k, table)
                self.assertEqual(caught.exception.word, "table")


class Picks(unittest.TestCase):
    def test_gaps_and_even_shares(self):
        chance = random.Random(153)
        for rule in some_rules(chance, WIDE_SHARES + [(2, 5, 2), (3, 4, 1)]):
            there = arounds(rule)
            self.assertEqual(gap(rule), gap_by_walking(rule), str(rule))
            self.assertEqual(even_share(rule), brute.value(sum(there.values()), len(there)), str(rule))

    def test_wrong_letters_of_all_functions(self):
        chance = random.Random(154)
        for rule in some_rules(chance, WIDEST + BEYOND):
            text = brute.some_text(chance, rule.letters, 40)
            at = chance.randrange(40)
            for letter in ["abcde"[rule.letters], "A", "\n", "\u00e4", "0"]:
                wrong = text[:at] + letter + text[at + 1:at + 3] + "z" + text[at + 3:]
                works = [
                    lambda: picks(rule, wrong), lambda: picked(rule, wrong), lambda: is_picked(rule, wrong),
                    lambda: share(rule, wrong), lambda: common(rule, wrong, text), lambda: common(rule, text, wrong),
                    lambda: moved(rule, wrong, 3, "a"), lambda: moved(rule, wrong, 38, "b"),
                    lambda: surely_shared(rule, wrong, text), lambda: surely_shared(rule, text, wrong),
                    lambda: Live(rule, wrong),
                ]
                for work in works:
                    with self.assertRaises(InvalidLetters) as caught:
                        work()
                    self.assertEqual(caught.exception.at, at)


class Shares(unittest.TestCase):
    def test_greatest_and_least_shares(self):
        chance = random.Random(155)
        for rule in some_rules(chance, WIDE_SHARES):
            pieces = brute.all_texts(rule.letters, rule.k)
            plain = [letter * rule.k for letter in "abcd"[:rule.letters]]
            more = plain + [piece for piece in chance.sample(pieces, len(pieces) // 4) if piece not in plain]
            for lot in [(), plain, more]:
                for sign, is_greatest, work in [(1, False, least_share), (-1, True, greatest_share)]:
                    if is_greatest and not lot:
                        continue
                    told = work(rule, lot)
                    self.assertEqual(told, least_by_walking(rule, sign, lot), (str(rule), lot))
                    found = ring(rule, is_greatest, lot)
                    if told is None:
                        self.assertIsNone(found)
                    else:
                        self.assertEqual(brute.share(rule, found), told)
                        self.assertTrue(brute.is_free(rule.k, found, lot))
                        self.check_heights(rule, told, is_greatest, lot)

    def check_heights(self, rule, told, is_greatest, lot):
        p, q = told
        sign = 1 if is_greatest else -1
        self.assertTrue(heights_hold(rule, told, is_greatest, heights(rule, told, is_greatest, lot), lot))
        beyond = brute.value(10 ** 6 * p - sign, 10 ** 6 * q)
        self.assertIsNone(heights(rule, beyond, is_greatest, lot))
        weaker = brute.value(10 ** 6 * p + sign, 10 ** 6 * q)
        paper = heights(rule, weaker, is_greatest, lot)
        self.assertTrue(heights_hold(rule, weaker, is_greatest, paper, lot))
        self.assertFalse(heights_hold(rule, beyond, is_greatest, paper, lot))

    def test_heights_of_lots_that_all_texts_meet(self):
        chance = random.Random(156)
        for rule in some_rules(chance, [(2, 3, 4), (3, 2, 3), (4, 2, 2), (2, 4, 2)]):
            lot = least_lot(rule.letters, rule.k)
            self.assertIsNone(least_share(rule, lot))
            self.assertIsNone(greatest_share(rule, lot))
            for value in [(0, 1), (1, 2), (1, 1), (-10 ** 20, 7), (10 ** 20, 7)]:
                for is_greatest in (True, False):
                    paper = heights(rule, value, is_greatest, lot)
                    self.assertTrue(heights_hold(rule, value, is_greatest, paper, lot))

    def test_wrong_lots_beyond_the_limits(self):
        chance = random.Random(157)
        for rule in some_rules(chance, WIDE_SHARES + BEYOND):
            piece = brute.some_text(chance, rule.letters, rule.k)
            for at, lot in [(0, None), (0, [7]), (1, [piece, piece]), (1, (piece, piece + "a")), (1, [piece, None]),
                            (0, ["abcde"[rule.letters] * rule.k, piece])]:
                works = [
                    lambda: least_share(rule, lot), lambda: greatest_share(rule, lot), lambda: ring(rule, True, lot),
                    lambda: heights(rule, (1, 1), True, lot), lambda: heights(rule, (0, 1), False, lot),
                    lambda: heights_hold(rule, (1, 1), True, None, lot),
                    lambda: meets_all(rule.letters, rule.k, lot), lambda: free_text(rule.letters, rule.k, lot),
                    lambda: count_free(rule.letters, rule.k, lot, 60), lambda: longest_free(rule.letters, rule.k, lot),
                    lambda: rule_within(rule.letters, rule.w, rule.k, lot),
                ]
                for work in works:
                    with self.assertRaises(InvalidLot) as caught:
                        work()
                    self.assertEqual(caught.exception.at, at)

    def test_somewhat_beyond_the_limits(self):
        chance = random.Random(158)
        for rule in some_rules(chance, [(2, 4, 3), (3, 3, 2), (4, 3, 1)]):
            told = least_share(rule)
            self.assertEqual(share(rule, ring(rule, False)), told)
            self.assertTrue(heights_hold(rule, told, False, heights(rule, told, False)))
            self.assertEqual(gap(rule), gap_by_walking(rule))


def shown(rule, t):
    """The picks of each stretch of t letters with all that can stand around it."""
    reach = rule.w - 1
    table = brute.offsets(rule)
    size = rule.w + rule.k - 1
    found = {}
    for text in brute.all_texts(rule.letters, t + 2 * reach):
        places = {at + table[text[at:at + size]] - reach for at in range(len(text) - size + 1)}
        inner = frozenset((at, text[at + reach:at + reach + rule.k]) for at in places if 0 <= at <= t - rule.k)
        found.setdefault(text[reach:reach + t], set()).add(inner)
    return found


def is_parted(rule, t, is_near):
    found = shown(rule, t)
    for one in found:
        others = [one]
        if is_near:
            others += [one[:at] + x + one[at + 1:] for at in range(t) for x in "abcd"[:rule.letters] if x > one[at]]
        if any(not ours & theirs for other in others for ours in found[one] for theirs in found[other]):
            return True
    return False


class Common(unittest.TestCase):
    def check(self, rule, least, pair_of, is_near):
        self.assertFalse(is_parted(rule, least, is_near), str(rule))
        self.assertIsNone(pair_of(rule, least))
        if least > rule.k:
            self.assertTrue(is_parted(rule, least - 1, is_near), str(rule))
            self.assertIsNotNone(pair_of(rule, least - 1))

    def test_least_common(self):
        chance = random.Random(159)
        for rule in some_rules(chance, within(WIDE_COMMON, 1100, lambda w, k: 3 * w + k - 3)):
            self.check(rule, least_common(rule), parted, False)

    def test_least_near(self):
        chance = random.Random(160)
        for rule in some_rules(chance, [(2, 2, 3), (3, 2, 1), (2, 3, 1), (2, 2, 2), (3, 1, 3), (2, 1, 4), (4, 1, 2)]):
            self.check(rule, least_near(rule), parted_near, True)


class Edits(unittest.TestCase):
    def test_greatest_moved(self):
        chance = random.Random(161)
        for letters, w, k in within(WIDE_EDITS, 2100, lambda w, k: 4 * w + 2 * k - 5):
            rule = brute.some_rules(chance, letters, w, k, 1)[0]
            side = 2 * w + k - 3
            table = brute.offsets(rule)
            size = w + k - 1

            def places(text):
                return {at + table[text[at:at + size]] for at in range(len(text) - size + 1)}

            there = {text: places(text) for text in brute.all_texts(letters, 2 * side + 1)}
            greatest = max(
                len(there[text] ^ there[text[:side] + x + text[side + 1:]]) for text in there for x in "abcd"[:letters])
            self.assertEqual(greatest_moved(rule), greatest, str(rule))
            text, letter, number = most_moved(rule)
            self.assertEqual(number, greatest)
            self.assertEqual(len(there[text] ^ there[text[:side] + letter + text[side + 1:]]), greatest)

    def test_moved_in_long_texts_of_wide_rules(self):
        chance = random.Random(162)
        for rule in some_rules(chance, WIDEST):
            text = brute.some_text(chance, rule.letters, 60)
            old = set(brute.places(rule, text))
            for at in list(range(0, 60, 7)) + [1, 58, 59]:
                letter = chance.choice("abcd"[:rule.letters])
                new = set(brute.places(rule, text[:at] + letter + text[at + 1:]))
                self.assertEqual(moved(rule, text, at, letter), (tuple(sorted(old - new)), tuple(sorted(new - old))))

    def test_somewhat_beyond_the_limits(self):
        rule = brute.some_rules(random.Random(163), 2, 4, 2, 1)[0]
        text, letter, number = most_moved(rule)
        gone, come = moved(rule, text, 7, letter)
        self.assertEqual(len(gone) + len(come), number)


class Others(unittest.TestCase):
    def test_comparing(self):
        chance = random.Random(164)
        for letters, w, k in WIDE_SHARES:
            one, other = brute.some_rules(chance, letters, w, k, 2)
            ours, theirs = arounds(one), arounds(other)
            self.assertIs(alike(one, other), ours == theirs)
            self.assertIs(no_more(one, other), all(theirs[text] for text in ours if ours[text]))
            if ours != theirs:
                text, place = parting(one, other)
                self.assertEqual((len(text), place), (2 * w + k - 2, w - 1))
                self.assertNotEqual(ours[text], theirs[text])

    def test_bounds(self):
        chance = random.Random(165)
        for rule in some_rules(chance, WIDE_SHARES + [(2, 5, 3)]):
            self.assertIs(is_met(rule), is_forward(rule) and even_share(rule) == bound(rule.letters, rule.w, rule.k))

    def test_orders(self):
        chance = random.Random(166)
        for letters, w, k in [(2, 5, 3), (2, 5, 2), (4, 4, 1), (3, 5, 1), (2, 5, 1), (4, 5, 1), (3, 3, 2)]:
            pieces = brute.all_texts(letters, k)
            self.assertFalse(brute.is_above(best_share(letters, w, k), order_share(letters, w, k, pieces)))
            for wrong in [None, pieces[1:], pieces[1:] + pieces[1:2], pieces + pieces[:1], [None] * len(pieces)]:
                with self.assertRaises(InvalidOrder):
                    order_share(letters, w, k, wrong)
            chance.shuffle(pieces)
            table = brute.table_by_order(letters, w, k, pieces)
            many = len(table)
            parted_texts = sum(table[text // letters] != table[text % many] + 1 for text in range(many * letters))
            self.assertEqual(order_share(letters, w, k, pieces), brute.value(parted_texts, many * letters))

    def test_telling(self):
        chance = random.Random(167)
        for letters, w, k in WIDEST:
            rule = brute.some_rules(chance, letters, w, k, 1)[0]
            length = 10 if letters == 2 else 7
            text = brute.some_text(chance, letters, length)
            table = brute.offsets(rule)
            size = w + k - 1

            def told(one):
                places = sorted({at + table[one[at:at + size]] for at in range(length - size + 1)})
                return tuple((place, one[place:place + k]) for place in places)

            found = tuple(one for one in brute.all_texts(letters, length) if told(one) == told(text))
            self.assertEqual(texts_with(rule, length, told(text)), found)
            self.assertEqual(count_with(rule, length, told(text)), len(found))
            self.assertIn(text, found)
